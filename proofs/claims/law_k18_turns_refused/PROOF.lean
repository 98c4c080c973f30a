import PyProof.Rows.All
import Wide.All
import OpenK.AllK
import Wide.FinOn
import HandS.ForMost
import HandS.More
import HandS.Set
import HandS.ClsMeth
import HandS.ExcInit
import HandS.Lambda
import HandS.TryMany
import HandS.ExcField
import HandS.SetTxt0
import HandS.SetFor
import KE.GoesMore
import HandS.Walk
import HandS.DictComp
import HandS.WordsExc
import HandS.Defaults
import PySem.Challenge.RW_nearcall_k18_turns_refused
import HandS.StrMore
import KE.GoesZip
import KE.GoesEnum
import HandS.Conv
import HandS.Iter
import HandS.Flow
import HandS.Finally
import KE.GoesComp
import PyProof.Rows.RegStrCode
import HandS.EndTab
import KE.HD2
import HandS.Words
set_option Elab.async false
set_option linter.all false
set_option maxRecDepth 100000
namespace NC
open PySem PySem.Spec PyProof.Rows L2
def sg (c : Nat) : Str := ⟨#[c]⟩
def sgs (x : Str) : List Str := x.cps.toList.map sg
section
variable {X : Cx}
theorem mt_swap : MtR X "str.swapcase" (fun x xs H Q => ∃ a, x = .str a ∧ xs = [] ∧ a.length ≤ 1000 ∧ Q (.str (Txt.swapcase a)) H) :=
  mt0 (C := fun a => a.length ≤ 1000) (g := fun a => .str (Txt.swapcase a)) fun a _ s _ hc h =>
    PySem.SC.swapcase (short24 (by have h1 : a.length ≤ 1000 := hc; have := len_swapcase a; omega)) (h _ (s.toks + 1) ⟨_, rfl⟩)
theorem items_strs {x : Str} {acc : Array Value} (h : ItemsOf (SignAt x) acc x.cps.size) : StrsAre acc.toList (sgs x) := by
  refine strs_at (by simp [sgs, h.1]) fun j v e => ?_
  obtain ⟨c, u, hc, hv⟩ := h.2 j v (by simpa using e)
  exact ⟨sg c, u, by simp [sgs, hc], hv⟩
/-- list(text) -/
theorem cr_listS (hc : X.calm = true) : CallR X (.type "list") (fun xs H Q => ∃ z, xs = [.str z] ∧ z.length ≤ sizeLine ∧ ∀ l, H l = none → Q (.ref l) (upd H l (.lst ((sgs z).map V.str)))) := by
  intro pins s σ H xs us Q I r h
  obtain ⟨z, rfl, hz, q⟩ := h
  obtain ⟨u, rfl, t, rfl⟩ := vals1 r
  refine call_list_str (I.ok.hd hc) z t (hn := hz) fun h' tk acc' c' hk hS' hacc => ?_
  have hl : ((sgs z).map V.str).length ≤ sizeLine := by
    rw [List.length_map]; unfold sgs; rw [List.length_map, Array.length_toList]; exact hz
  refine ⟨.ref s.heap.objs.size, upd H s.heap.objs.size (.lst ((sgs z).map V.str)), I.laid hk (Nat.le_refl _) ⟨hl, acc'.toList, c', vals_of_strs (items_strs hacc), by simpa using hS'⟩, rfl, q _ (I.hok.fresh (Nat.le_refl _))⟩
/-- sorted(v), where what is gathered of v are fewer than 64 texts -/
theorem srt_str {pins : List (Addr × Obj)} {s : Shared} {σ : L2.St} {H : Hp} {Q : VK} (I : Inv X pins σ H s) (v : Value) (ks : List Str) (h64 : ks.length < 64)
    (hcol : ∀ (E : Value → Shared → Prop) (Q' : List Value → Shared → Prop), (∀ s' out ks', s'.os = s.os → s'.gens = s.gens → (∀ b o, s.heap.get? b = some o → s'.heap.get? b = some o) → StrsAre out ks' → ks'.Perm ks → Q' out s') →
      wpAny (model X.prog X.w) X.A.in1 (collect v) Q' E s)
    (q : ∀ ys p, ys.Perm ks → sortedS ys = true → H p = none → Q (.ref p) (upd H p (.lst (ys.map V.str)))) :
    wpAny (model X.prog X.w) X.A (call (.builtin "sorted") [v]) (EP X pins σ Q) X.xe s := by
  have go : wpAny (model X.prog X.w) X.A.in1 (collect v) (fun out s1 => ∃ ks', s1.os = s.os ∧ s1.gens = s.gens ∧ (∀ b o, s.heap.get? b = some o → s1.heap.get? b = some o) ∧ StrsAre out ks' ∧ ks'.Perm ks) X.xe s := hcol _ _ fun s1 out ks' e1 e2 e3 e4 e5 => ⟨ks', e1, e2, e3, e4, e5⟩
  refine Calls.call_function_entry PyProof.Rows.kind_sorted PyProof.Rows.plain_sorted PyProof.Rows.entry_sorted (PyProof.Rows.args_sorted1 _) (show wpAny _ X.A.in1 (Builtin.«sorted» _) _ _ _ from ?_)
  unfold Builtin.«sorted»
  refine wpAny_bind (wpAny_pure (wpAny_bind (thn go fun out t g => ?_)))
  obtain ⟨ks', io, gn, stay, sts, perm⟩ := g
  have J : Inv X pins σ H t := I.call' (ch := []) io (Un.kept stay) (I.hok.kept stay) (gn.symm ▸ I.bare) nofun
  have few : out.length < 64 := by
    have l1 := StrsAre.len_eq sts
    have l2 := perm.length_eq
    omega
  obtain ⟨hp, gs, dr, tk, os⟩ := t
  have lst : (hp.push (seqObj "list" out.toArray 0)).get? hp.objs.size = some (seqObj "list" out.toArray 0) := Heap.get?_push_size _ rfl
  refine wpAny_bind (wpAny_newList (wpAny_bind (wpAny_holding (wpAny_call_entry PyProof.Rows.slot_list_sort ⟨_, lst, rfl⟩ PyProof.Rows.entry_list_sort (list_sort_treeK strKind_oneLt lst sts.keysOf (fun _ _ _ e => keyKind_strs (e ▸ sts)) few fun st p1 p2 => ⟨_, rfl, ?_⟩)
    (PyProof.Rows.args_list_sort _)))) (by rw [sizeLine_eq]; omega))
  obtain ⟨ys, is, py, so⟩ := sorted_out_str sts p1 p2
  obtain ⟨ep, at_⟩ := PyProof.Rows.sortedHeap_at (vs := out) (out := (arrOf st).map (·.2)) lst
  have pk : ys.Perm ks := py.trans perm
  have sz : (ys.map V.str).length ≤ sizeLine := by
    have l3 := pk.length_eq
    rw [sizeLine_eq, List.length_map]
    omega
  have old : ∀ (b : Addr) (o : Obj), hp.get? b = some o → (sortedHeap (hp.push (seqObj "list" out.toArray 0)) hp.objs.size out ((arrOf st).map (·.2))).get? b = some o := fun b o e => by
    have lo := Heap.lt_size e
    rw [PyProof.Rows.sortedHeap_old (Nat.ne_of_lt lo) (by rw [size_push']; exact Nat.lt_succ_of_lt lo), Heap.get?_push_of_some _ e]
  exact wpAny_pure ⟨_, rfl, .ref hp.objs.size, upd H hp.objs.size (.lst (ys.map V.str)), J.laid (t' := tk) old (Nat.le_refl _) (show ObjOk X.prog X.w _ _ _ (.lst (ys.map V.str)) from ⟨sz, ((arrOf st).map (·.2)).toList, ep, vals_of_strs is, Array.toArray_toList.symm ▸ at_⟩), rfl, q ys _ pk so (J.hok.fresh (Nat.le_refl _))⟩
/-- sorted(text) -/
theorem cr_sortedT (hc : X.calm = true) : CallR X (.builtin "sorted") (fun xs H Q => ∃ z, xs = [.str z] ∧ z.length < 64 ∧ ∀ ys p, ys.Perm (sgs z) → sortedS ys = true → H p = none → Q (.ref p) (upd H p (.lst (ys.map V.str)))) := by
  intro pins s σ H xs us Q I r h
  obtain ⟨z, rfl, hz, q⟩ := h
  obtain ⟨u, rfl, t, rfl⟩ := vals1 r
  have hl : (sgs z).length < 64 := by unfold sgs; rw [List.length_map, Array.length_toList]; exact hz
  refine srt_str I (.str z t) (sgs z) hl (fun E Q' hQ => ?_) q
  refine wpAny_collect_str (A := X.A.in1) (I.ok.hd hc) z t (hn := by show z.length ≤ sizeLine; rw [sizeLine_eq]; omega) fun s' acc hk hg hd ho hacc => ?_
  exact hQ s' _ _ ho hg hk (items_strs hacc) (List.Perm.refl _)
end
end NC
namespace NC
open PySem PySem.Spec PyProof.Rows L2
section
variable {X : Cx} {CX : CXT} {k : Nat} {C f : Addr} {mc : Value} {sp : Sp} {E : XK} {e : Expr} {es : List Expr} {x m : Str} {pos p1 p2 : Pos} {t : TA} {pl : Sem Bool}
  {fd : FuncData} {ps : List Str} {dvs : List V} {ds : List Value}
/-- C.m(e, ..), C an own class by its name, m a plain def of it -/
theorem pe_clsfn (hg : Gl X x) (hm : X.mg x = some (.ref C)) (rd : ClX.CRead X.K C mc) (kv : PySem.W.findCls X.K (.ref C) mc m = some (.val (.ref f)))
    (F : FnOk X.prog X.w X.K X.mg X.base CX k f fd ps sp) (hr : Room k X.A) (hk : PySem.W.keepIn X.K (.ref f) = true) (hb : Binds X.K fd ps ds) (hd : Vals dvs ds) (hx : Passes CX X E) (ha : PA X (e :: es) t)
    (hdb : (x == ("__debug__" : Str)) = false := by decide)
    (hst : starEach (e :: es) X.env = (false, eval e X.env) :: starEach es X.env := by rfl) (hpl : (backTo pos (starEach es X.env)).any (·.1) = false := by rfl)
    (ht : eval (.Call (.Attribute (.Name x p1) m p2) (e :: es) [] pos) X.env = (do
      let ov ← eval (.Name x p1) X.env
      standAt p2.atName
      let (g, first) ← holding [ov] (getMethod ov m pl)
      callWith pos g first (backTo pos (starEach (e :: es) X.env)) (backToKw pos (keywordEach [] X.env))) := by rfl) :
    PE X (.Call (.Attribute (.Name x p1) m p2) (e :: es) [] pos) (tCall sp dvs E t) := by
  refine ⟨fun pins s0 σ H Q I0 h0 => ?_⟩
  refine PySem.W.methodCall_KW (pl := pl) (ld_glob I0 hg hm ?_ hdb) ht
  refine PySem.W.method_cls I0.kIn rd.ga (ClX.getcval_ok (v := .ref f) I0 rd ⟨kv, rfl⟩ fun s1 I1 => ?_)
  refine PySem.W.callWith_K (first := []) (h₀ := X.base) I1.ok.mod.kin hk (thn (ha.run pos pins s1 σ H _ I1 h0) fun us s2 ⟨vs, H2, I2, r2, q2⟩ => ⟨I2.kIn, ?_⟩) hst hpl
  exact run_fn (us := us) (vs := vs) F hr hb hd hx I2 r2 q2
end
end NC
namespace NC
open PySem PySem.Spec PyProof.Rows L2
open PySem.Froz (SD sObj runD addTx tailTx TxOk sing itObj finU two)
/-- the table rises and may be walked -/
def TxG (b : Bool) (D : SD) : Prop := Ris D.2.2.place.toList ∧ D.2.2.led = b
theorem txg_tail {b : Bool} {ep : Nat} {es : Array (Int × Value)} {t : SetTable} {d : Bool} (h : Ris t.place.toList ∧ t.led = b) : TxG b (tailTx ep es t d) := by
  unfold tailTx
  by_cases c : (!d && t.tooFull) = true
  · rw [if_pos c]; exact ⟨relayAll_ris _ _ _, (relayAll_led _ _ _).trans h.2⟩
  · rw [if_neg c]; exact h
theorem txg_add {b : Bool} {D : SD} {hv : Int} {v : Value} (h : TxG b D) : TxG b (addTx hv v D) := by
  unfold addTx
  have h1 := layNew_ris D.2.2 D.1 hv v h.1
  have h2 := (layNew_led D.2.2 D.1 hv v).trans h.2
  refine txg_tail ?_
  split
  · exact ⟨h1, h2⟩
  · exact ⟨h1, h2⟩
theorem run_good {P : Program} {w : World} {b : Bool} : ∀ (cs : List Nat) (tk : Tok) (D : SD) (l : List Str), TxG b D → TxOk P w D l → ∃ l', TxG b (runD w cs tk D) ∧ TxOk P w (runD w cs tk D) l' ∧ l'.Perm (l ++ cs.map sg)
  | [], tk, D, l, g, o => ⟨l, g, o, by simp⟩
  | c :: r, tk, D, l, g, o => by
    obtain ⟨l', g', o', p⟩ := run_good r (tk + 2) _ (sing c :: l) (txg_add g) (Froz.add_ok (k := sing c) tk o)
    refine ⟨l', g', o', p.trans ?_⟩
    show (sg c :: (l ++ r.map sg)).Perm (l ++ (sg c :: r.map sg))
    exact List.perm_middle.symm
theorem loop_txt {P : Program} {w : World} {A : Around} {R : Result → Shared → Prop} {s : Shared} {a it : Addr} {x : Str} {u : Tok} {led : Bool} (hh : A.handled = none) (hne : a ≠ it)
    (ha : s.heap.get? a = some (sObj "set" (#[], 0, .fresh 0 0 led))) (hit : s.heap.get? it = some (itObj x u 0)) (hnd : x.cps.toList.Nodup) (hb : x.cps.toList.length < 64)
    (h : ∀ (h' : Heap) (tk : Nat) (D : SD) (l : List Str), h'.get? a = some (sObj "set" D) → TxG led D → TxOk P w D l → l.Perm (sgs x) →
      (∀ b o, b ≠ a → b ≠ it → s.heap.get? b = some o → h'.get? b = some o) → R (.ok (.ret .none)) { s with heap := h', toks := tk }) :
    codeAny (model P w) A (.builtin "set.update.loop" ⟨[.ref a, .ref it], []⟩) R s := by
  have g0 : TxG led ((#[], 0, .fresh 0 0 led) : SD) := ⟨List.Pairwise.nil, rfl⟩
  have o0 : TxOk P w ((#[], 0, .fresh 0 0 led) : SD) [] := Froz.TxOk.nil rfl
  obtain ⟨l', g1, o1, p1⟩ := run_good (P := P) (w := w) x.cps.toList s.toks _ [] g0 o0
  refine Froz.code_update (T := "set") (u := u) hne hh x.cps.toList 0 _ [] s rfl ha hit o0 (fun c _ z => nomatch z) hnd (by show 0 + x.cps.toList.length < scanBound; unfold scanBound; omega) ?_
  unfold finU two
  have e1 := Froz.get_upd (sObj "set" (runD w x.cps.toList s.toks (#[], 0, .fresh 0 0 led))) ha rfl
  refine h _ _ _ l' (Heap.get?_push_of_some _ (Heap.get?_push_of_some _ (Heap.get?_update_of_ne _ (Ne.symm hne) e1))) g1 o1 (p1.trans (by simp [sgs])) fun b o h1 h2 e => ?_
  exact Heap.get?_push_of_some _ (Heap.get?_push_of_some _ (Heap.get?_update_of_ne _ (Ne.symm h2) (Heap.get?_update_of_ne _ (Ne.symm h1) e)))
set_option maxHeartbeats 3200000 in
/-- set(text), its signs unlike -/
theorem call_set_txt {P : Program} {w : World} {A : Around} {E : Value → Shared → Prop} {s : Shared} {x : Str} {t : Tok} {Q : Value → Shared → Prop} (hh : A.handled = none) (hA : x.cps.all (· < 128) = true)
    (hnd : x.cps.toList.Nodup) (hb : x.cps.toList.length < 64)
    (h : ∀ (h' : Heap) (tk : Nat) (D : SD) (l : List Str), h'.get? s.heap.objs.size = some (sObj "set" D) → TxG (!w.params.followText "set-order") D → TxOk P w D l → l.Perm (sgs x) →
      (∀ b o, s.heap.get? b = some o → h'.get? b = some o) → Q (.ref s.heap.objs.size) { s with heap := h', toks := tk }) :
    wpAny (model P w) A (call (.type "set") [.str x t]) Q E s := by
  obtain ⟨c, tl, hmro⟩ := PySem.F.called_set.mro
  have hmade := PySem.F.called_set.made
  have hsub := PySem.F.called_set.sub
  generalize hled : (!w.params.followText "set-order") = led at h
  refine wpAny_call (codeAny_of_tree ?_)
  show wpAny _ _ (callAny (.type "set") _) _ _ _
  refine wpAny_pure ⟨Code.quiet_builtin _ (by decide +kernel), codeAny_builtin PySem.F.entry_type_call ?_⟩
  rw [Around.under_plain (weight_type_call_type "set" [.str x t] []) rfl]
  have n1 := PySem.F.called_set.notType
  have n2 := PySem.F.called_set.canCreate
  have hct := PySem.F.typeCall_set_1 (.str x t)
  repeat (any_goals (first | assumption | wp_step))
  refine codeAny_mono (code_set_led1 (.str x t) (E := E) (Q₁ := fun ob s1 => ob = .ref s.heap.objs.size ∧ s1 = { s with heap := s.heap.push (sObj "set" (#[], 0, .fresh 0 0 led)) }) ⟨rfl, by rw [hled]; rfl⟩) fun r s1 hr => ?_
  cases r with
  | error e => exact hr
  | ok fl =>
    cases fl with
    | ret ob =>
      obtain ⟨rfl, rfl⟩ := hr
      have hS : (s.heap.push (sObj "set" (#[], 0, .fresh 0 0 led))).get? s.heap.objs.size = some (sObj "set" (#[], 0, .fresh 0 0 led)) := Heap.get?_push_size _ rfl
      have hT : Shared.TypeIs { s with heap := s.heap.push (sObj "set" (#[], 0, .fresh 0 0 led)) } (.ref s.heap.objs.size) "set" := ⟨_, hS, rfl⟩
      have hli := PySem.F.called_set.init.lookup
      have hbi := PySem.F.called_set.init.bind (.ref s.heap.objs.size)
      repeat (any_goals (first | assumption | wp_step))
      refine codeAny_mono (codeAny_call_builtin (R := wants (fun r s2 => r = .none ∧ Q (.ref s.heap.objs.size) s2) E) PySem.F.called_set.init.plain PySem.F.entry_set_init (check_set_init_1 hT ?_)) fun r2 s2 hr2 => ?_
      · unfold Builtin.«set.__init__» noKeywords Builtin.Frozenset.updateFrom
        have b1 : isSubtype (.type "str") (.type "set") = pure false := by rw [isSubtype_type]; kernel_rfl
        have b2 : isSubtype (.type "str") (.type "frozenset") = pure false := by rw [isSubtype_type]; kernel_rfl
        have b3 : (Value.type "str" == Value.type "dict") = false := by decide
        generalize hPI : pyIter = PI
        wp_walk
        subst hPI
        refine wpAny_pyIter_ascii hA ?_
        refine wpAny_bind (wpAny_runValue ?_)
        have hz : (s.heap.push (sObj "set" (#[], 0, .fresh 0 0 led))).objs.size = s.heap.objs.size + 1 := Heap.size_push ..
        refine loop_txt (A := A.in1.in1) (u := t) (by simp [hh]) (by show s.heap.objs.size ≠ (s.heap.push _).objs.size; rw [hz]; omega) (Heap.get?_push_of_some _ hS) (Heap.get?_push_size _ rfl) hnd hb fun h' tk D l e1 e2 e3 e4 e5 => ?_
        refine wpAny_pure ?_
        show wpAny _ _ (ret Value.none) _ _ _
        refine wpAny_pure ⟨rfl, h h' tk D l e1 e2 e3 e4 fun b o e => e5 b o ?_ ?_ (Heap.get?_push_of_some _ (Heap.get?_push_of_some _ e))⟩
        · exact Nat.ne_of_lt (Heap.lt_size e)
        · show b ≠ (s.heap.push _).objs.size
          rw [hz]
          exact Nat.ne_of_lt (Nat.lt_succ_of_lt (Heap.lt_size e))
      · cases r2 with
        | error e => exact hr2
        | ok f2 =>
          cases f2 with
          | ret r =>
            obtain ⟨rfl, hq⟩ := hr2
            repeat (any_goals (first | assumption | wp_step))
          | _ => exact hr2.elim
    | _ => exact hr.elim
/-- a set of the texts l -/
def SetTx (P : Program) (w : World) (a : Addr) (l : List Str) : HO := .ext fun h => ∃ D : SD, h.get? a = some (sObj "set" D) ∧ TxG (!w.params.followText "set-order") D ∧ TxOk P w D l
section
variable {X : Cx}
theorem setTx_ok {H : Hp} {h : Heap} {a : Addr} {l : List Str} {D : SD} (e : h.get? a = some (sObj "set" D)) (g : TxG (!X.w.params.followText "set-order") D) (o : TxOk X.prog X.w D l) : ObjOk X.prog X.w H h a (SetTx X.prog X.w a l) :=
  ⟨⟨D, e, g, o⟩, ⟨_, e⟩, fun h1 h2 ⟨D', e', r'⟩ k => ⟨D', k _ e', r'⟩⟩
theorem cr_setT (hc : X.calm = true) : CallR X (.type "set") (fun xs H Q => ∃ z, xs = [.str z] ∧ z.cps.all (· < 128) = true ∧ z.cps.toList.Nodup ∧ z.cps.toList.length < 64 ∧
    ∀ p l, H p = none → l.Perm (sgs z) → Q (.ref p) (upd H p (SetTx X.prog X.w p l))) := by
  intro pins s σ H xs us Q I r h
  obtain ⟨z, rfl, hA, hn, hl, q⟩ := h
  obtain ⟨u, rfl, t, rfl⟩ := vals1 r
  refine call_set_txt (P := X.prog) (w := X.w) (I.ok.hd hc) hA hn hl fun h' tk D l e1 e2 e3 e4 e5 => ?_
  exact ⟨.ref s.heap.objs.size, _, I.laid e5 (Nat.le_refl _) (setTx_ok e1 e2 e3), rfl, q _ l (I.hok.fresh (Nat.le_refl _)) e4⟩
theorem strs_map : ∀ vs : List Value, (∀ v ∈ vs, ∃ y u, v = Value.str y u) → StrsAre vs (vs.map strOf)
  | [], _ => .nil
  | v :: r, h => by
    obtain ⟨y, u, rfl⟩ := h v (List.mem_cons_self ..)
    exact .cons y u (strs_map r fun z hz => h z (List.mem_cons_of_mem _ hz))
theorem strs_perm {vs out : List Value} {ks : List Str} (h : StrsAre vs ks) (p : out.Perm vs) : ∃ ks', StrsAre out ks' ∧ ks'.Perm ks := by
  refine ⟨_, strs_map out fun v hv => h.all v (p.mem_iff.mp hv), ?_⟩
  rw [← h.strs]
  exact p.map _
theorem nd_perm : ∀ (l ks : List Str), l.Nodup → (∀ y ∈ l, y ∈ ks) → ks.length ≤ l.length → ks.Perm l
  | [], ks, _, _, h => by
    have e : ks = [] := List.length_eq_zero_iff.mp (by simpa using h)
    rw [e]
  | y :: r, ks, hn, hs, h => by
    obtain ⟨n1, n2⟩ := List.nodup_cons.mp hn
    have m : y ∈ ks := hs y (List.mem_cons_self ..)
    have hl := List.length_erase_of_mem m
    have q := nd_perm r (ks.erase y) n2 (fun z hz => (List.mem_erase_of_ne (fun e : z = y => n1 (by rw [← e]; exact hz))).mpr (hs z (List.mem_cons_of_mem _ hz))) (by
      rw [List.length_cons] at h
      omega)
    exact (List.perm_cons_erase m).trans (q.cons y)
theorem tx_strs {P : Program} {w : World} {D : SD} {l : List Str} (o : TxOk P w D l) (hn : l.Nodup) : ∃ ks, StrsAre (D.1.toList.map (·.2)) ks ∧ ks.Perm l := by
  have sh : ∀ e ∈ D.1.toList, ∃ k u, e.2 = Value.str k u ∧ (strKind P w).is k e.2 = true := fun e he => by
    obtain ⟨⟨k, hk, _⟩, _⟩ := o.el e he
    obtain ⟨u, eu⟩ := Value.isStrOf_shape (x := k) (v := e.2) hk
    exact ⟨k, u, eu, hk⟩
  refine ⟨_, strs_map _ fun v hv => ?_, nd_perm l _ hn (fun k hk => ?_) ?_⟩
  · obtain ⟨e, he, rfl⟩ := List.mem_map.mp hv
    obtain ⟨k, u, eu, _⟩ := sh e he
    exact ⟨k, u, eu⟩
  · obtain ⟨e, he, z⟩ := (o.mem k).mp hk
    obtain ⟨u, eu⟩ := Value.isStrOf_shape (x := k) (v := e.2) z
    refine List.mem_map.mpr ⟨e.2, List.mem_map.mpr ⟨e, he, rfl⟩, ?_⟩
    rw [eu]
    rfl
  · rw [List.length_map, List.length_map, Array.length_toList, o.sz]
    exact Nat.le_refl _
theorem cr_sortedSetT (hc : X.calm = true) : CallR X (.builtin "sorted") (fun xs H Q => ∃ a l, xs = [.ref a] ∧ H a = some (SetTx X.prog X.w a l) ∧ l.Nodup ∧ l.length < 64 ∧
    ∀ ys p, ys.Perm l → sortedS ys = true → H p = none → Q (.ref p) (upd H p (.lst (ys.map V.str)))) := by
  intro pins s σ H xs us Q I r h
  obtain ⟨a, l, rfl, ha, hn, hl, q⟩ := h
  rw [Vals.ref1 r]
  obtain ⟨⟨D, e, g, o⟩, _, _⟩ := I.hok a _ ha
  obtain ⟨ks, hS, hp⟩ := tx_strs o hn
  have hsz : D.1.size < scanBound := by rw [o.sz]; unfold scanBound; omega
  refine srt_str I (.ref a) l hl (fun E Q' hQ => ?_) q
  refine collect_set (A := X.A.in1) (P := X.prog) (w := X.w) (es := D.1) (ep := D.2.1) (t := D.2.2) (I.ok.hd hc) ⟨_, e, rfl, rfl⟩ o.fit hsz g.1 ?_ fun s' out k1 k2 k3 k4 k5 => ?_
  · rw [g.2]
    cases X.w.params.followText "set-order"
    · exact .inr rfl
    · exact .inl rfl
  · obtain ⟨ks', hS', hp'⟩ := strs_perm hS k5
    exact hQ s' out ks' k4 k3 k1 hS' (hp'.trans hp)
end
end NC
namespace NC
open PySem PySem.Spec PyProof.Rows L2
/-- the two objects that enumerate(t) lays, t at l -/
abbrev titO (l : Addr) : Obj := { cls := .type "tuple_iterator", data := .fields #[.ref l, .int 0 0] }
abbrev enuO (it : Addr) : Obj := { cls := .type "enumerate", data := .fields #[.none, .bool false, .ref it, rawInt 0, .none, .none] }
theorem meets_enumT (l : Addr) (ob : Obj) (items : Array Value) (n : Nat) (hc : ob.cls = .type "tuple") (hd : ob.data = .seq items n) :
    Meets (Builtin.«enumerate.__new__» ⟨[.type "enumerate", .ref l], []⟩) (fun _ R s => s.heap.get? l = some ob ∧ R (.ok (.ret (.ref (s.heap.push (titO l)).objs.size))) { s with heap := (s.heap.push (titO l)).push (enuO s.heap.objs.size) }) :=
  .of_wp fun P w A R t h => by
    obtain ⟨oc, od, dt, sl⟩ := ob
    cases (show oc = _ from hc)
    cases (show dt = _ from hd)
    have tup : t.heap.IsTuple l items := ⟨_, h.1, rfl, n, rfl⟩
    have sb := sub_enumerate
    obtain ⟨hp, g, d, tk, os⟩ := t
    have ld := h.1
    wp_walk using AutoSeq1.wpAny_loadPart' ld
    refine wpAny_stack_any fun _ => wpAny_pure ?_
    split
    · rename_i k _ _ _ _ _
      cases (k == Value.type "enumerate") <;> (wp_walk using AutoSeq1.wpAny_loadPart' ld, wpAny_pyIter_tuple tup; exact ⟨_, rfl, h.2⟩)
    · wp_walk using AutoSeq1.wpAny_loadPart' ld, wpAny_pyIter_tuple tup
      exact ⟨_, rfl, h.2⟩
theorem call_enumT {P : Program} {w : World} {A : Around} {E Q : Value → Shared → Prop} {t : Shared} {l : Addr} {items : Array Value} (tup : t.heap.IsTuple l items)
    (h : ∀ g, IsEnum g (t.heap.objs.size + 1) t.heap.objs.size 0 .none → g.IsTupleIter t.heap.objs.size l 0 → (∀ b o, t.heap.get? b = some o → g.get? b = some o) → Q (.ref (t.heap.objs.size + 1)) { t with heap := g }) :
    wpAny (model P w) A (call (.type "enumerate") [.ref l]) Q E t := by
  obtain ⟨ob, ho, oc, n, od⟩ := tup
  have sz : (t.heap.push (titO l)).objs.size = t.heap.objs.size + 1 := Heap.size_push ..
  have laid : IsEnum ((t.heap.push (titO l)).push (enuO t.heap.objs.size)) (t.heap.objs.size + 1) t.heap.objs.size 0 .none := by
    have z := Heap.get?_push_size (t.heap.push (titO l)) (o := enuO t.heap.objs.size) rfl
    exact sz ▸ z
  refine callType_new F.called_enumerate (by decide) (F.typeCall_enumerate_1 _) (F.newCall_enumerate_1 _) (fun z => F.args_object_init_2 z _) F.entry_enumerate_new (meets_enumT l ob items n oc od) ⟨ho, ?_⟩
  show _ ∧ _
  rw [sz]
  exact ⟨⟨_, laid, rfl⟩, h _ laid ⟨_, Heap.get?_push_of_some _ (Heap.get?_push_size _ rfl), rfl, rfl⟩ fun _ _ z => Heap.get?_push_of_some _ (Heap.get?_push_of_some _ z)⟩
/-- the walk: at turn i a new pair of i and the item -/
def ItET (K : PySem.W.Frag) (a : Addr) : It :=
  ⟨fun i H => ∃ (xs : List V) (x : V), SqT K H a xs ∧ xs[i]? = some x, fun i H v H' => ∃ T x, v = .ref T ∧ H T = none ∧ H' = upd H T (.tup [.int (i : Nat), x]) ∧ ∀ xs, SqT K H a xs → xs[i]? = some x,
    fun i H => ∃ xs : List V, SqT K H a xs ∧ xs.length ≤ i⟩
/-- the state ahead of turn i: the enumerate object at e, its iterator at it -/
def AtE (a e it : Addr) (i : Nat) (h : Heap) : Prop := (∃ last, IsEnum h e it ((i : Nat) : Int) last) ∧ h.IsTupleIter it a i ∧ e ≠ it
theorem AtE.apart {a e it : Addr} {i : Nat} {h : Heap} {vs : Array Value} (st : AtE a e it i h) (t : h.IsTuple a vs) : a ≠ it ∧ e ≠ a := by
  obtain ⟨⟨_, g1⟩, ⟨o2, g2, c2, _⟩, _⟩ := st
  obtain ⟨o3, g3, c3, _⟩ := t
  have g1 : h.get? e = _ := g1
  refine ⟨fun z => ?_, fun z => ?_⟩
  · rw [z, g2] at g3
    exact absurd (c2.symm.trans ((Option.some.inj g3) ▸ c3)) (by decide)
  · rw [z, g3] at g1
    have c4 : o3.cls = .type "enumerate" := (Option.some.inj g1) ▸ rfl
    exact absurd (c3.symm.trans c4) (by decide)
theorem AtE.olds {a e it : Addr} {i : Nat} {h : Heap} (st : AtE a e it i h) {b : Addr} (m : b ∈ [e, it]) : b < h.objs.size := by
  obtain ⟨⟨_, g1⟩, ⟨o2, g2, _⟩, _⟩ := st
  rcases List.mem_cons.mp m with rfl | m
  · exact Heap.lt_size g1
  · exact (List.mem_singleton.mp m) ▸ Heap.lt_size g2
theorem turn_enumT {P : Program} {w : World} {K : PySem.W.Frag} {elts : List Expr} {kk : Nat} {tpos : Pos} (a e it : Addr) : Turn P w K (.Tuple elts kk tpos) (ItET K a) [e, it] e (AtE a e it) where
  mem := .head _
  obj := fun i h st b m => by
    rcases List.mem_cons.mp m with rfl | m
    · exact st.1.elim fun _ g => ⟨_, g, nofun⟩
    · obtain ⟨o, g, _, k⟩ := st.2.1
      exact ⟨o, (List.mem_singleton.mp m) ▸ g, fun v z => nomatch k.symm.trans z⟩
  keep := fun i h h' st k => ⟨st.1.imp fun _ g => k e (.head _) _ g, st.2.1.at fun o g => k it (.tail _ (.head _)) o g, st.2.2⟩
  item := by
    rintro X rfl rfl rfl calm i ps t σ H E I fre st ⟨xs, x, sq, ax⟩
    obtain ⟨its, vl, tp, _⟩ := I.tuple sq
    have tup : t.heap.IsTuple a its.toArray := tp
    obtain ⟨u, au, rel⟩ := vl.get ax
    have lt : i < its.toArray.size := by simpa using (List.getElem?_eq_some_iff.mp au).1
    obtain ⟨n1, n2⟩ := st.apart tup
    obtain ⟨_, enu⟩ := st.1
    have old : e < t.heap.objs.size := st.olds (.head _)
    refine wpAny_pyNext_enum_itemD (Draws.tuple (prog := X.prog) (w := X.w) (A := X.A.in1) (I.ok.hd calm) it a n1 its.toArray) enu ⟨st.2.1, tup⟩ lt st.2.2 (by simp [st.2.2, n2]) fun y g tk ay own on pair _ stay => ?_
    obtain rfl : y = u := Option.some.inj ((show its[i]? = some y by simpa using ay).symm.trans au)
    refine ⟨_, rfl, wpAny_letOwnedTupleGo_enum (s := { t with heap := g, toks := tk + 1 }) own fun g2 enu2 but => ?_⟩
    have pair2 : g2.get? t.heap.objs.size = some { cls := .type "tuple", data := .seq #[.int i tk, y] } := (but.2 _ (Nat.ne_of_gt old)).trans pair
    refine ⟨.ref t.heap.objs.size, upd H t.heap.objs.size (.tup [.int (i : Nat), x]), I.turnedNew (ch := [e, it]) (fun b o nb z => (but.2 b fun q => nb (by simp [q])).trans (stay b o (fun q => nb (by simp [q])) (fun q => nb (by simp [q])) z)) fre (Nat.le_refl _)
        ⟨by show 2 ≤ sizeLine; decide, [.int i tk, y], .cons ⟨_, rfl⟩ (.cons rel .nil), ⟨_, pair2, rfl, _, rfl⟩⟩, rfl, ⟨_, x, rfl, I.hok.fresh (Nat.le_refl _), rfl, fun ys sy => I.tuple_inj sy sq ▸ ax⟩, ⟨⟨y, ?_⟩, on.1.at fun o z => (but.2 it (Ne.symm st.2.2)).trans z, st.2.2⟩, fun b m => ?_⟩
    · exact (show ((i + 1 : Nat) : Int) = (i : Int) + 1 by omega) ▸ enu2
    · exact (upd_ne (Nat.ne_of_lt (st.olds m))).trans (fre b m).1
  done := by
    rintro X rfl rfl rfl calm i ps t σ H E I fre st ⟨xs, sq, le⟩
    obtain ⟨its, vl, tp, _⟩ := I.tuple sq
    have tup : t.heap.IsTuple a its.toArray := tp
    obtain ⟨_, enu⟩ := st.1
    have ty : t.TypeIs (.ref e) "enumerate" := ⟨_, enu, rfl⟩
    have end_ : its.toArray[i]? = none := by
      have := vl.length
      simp
      omega
    have fr := fre it (.tail _ (.head _))
    unfold pyNext
    refine wpAny_bind (wpAny_attempt (wpAny_callSpecial?_slot (name := Str.ofString "__next__") ty F.slot_enumerate_next (wpAny_call_entry F.slot_enumerate_next ty F.entry_enumerate_next ?_ (F.args_enumerate_next_1 _))))
    show wpAny _ _ (field (.ref e) 2 >>= fun _ => _) _ _ _
    refine wpAny_bind (wpAny_field enu rfl (x := .ref it) rfl (wpAny_bind (wpAny_nextOf_tuple_end (I.ok.hd calm) st.2.1 tup end_ fun g z but hz => ?_)))
    exact wpAny_bind (wpAny_isInstance (T := "StopIteration") (b := true) hz isSubtype_stop (wpAny_pure ⟨rfl, I.turned (t' := t.toks) (fun b o nb q => but b o nb q) fr.1 fr.2.1 fr.2.2.2.1 fr.2.2.2.2.1 fr.2.2.2.2.2⟩))
  self := fun _ _ _ _ _ st h => st.1.elim fun _ g => wpAny_pyIter_enum g h
def iEnumT (K : PySem.W.Frag) (ta : TA) : TI := fun σ H R => ta σ H fun vs H1 => ∃ a, vs = [.ref a] ∧ ((∃ xs, SqL K H1 a xs) ∧ R (Ite K a) H1 ∨ (∃ xs, SqT K H1 a xs) ∧ R (ItET K a) H1)
/-- enumerate of a list or of a tuple -/
theorem pi_enumT {X : Cx} {e : Expr} {ta : TA} {p pos tpos : Pos} {elts : List Expr} {kk : Nat} (gl : Gl X "enumerate") (bi : X.mg "enumerate" = none) (arg : PA X [e] ta) (one : starEach [e] X.env = [(false, eval e X.env)] := by rfl) :
    PI X (.Tuple elts kk tpos) (.Call (.Name "enumerate" p) [e] [] pos) (iEnumT X.K ta) := by
  refine ⟨fun ps t σ H R I h => Call_ (ld_blt I gl bi boot_enumerate (PyProof.Rows.callWith_type1 (thn (arg.run pos ps t σ H _ I h) fun us v r => ?_) one rfl))⟩
  obtain ⟨vs, G, J, rv, a, rfl, r⟩ := r
  cases Vals.ref1 rv
  have new : ∀ b ∈ [v.heap.objs.size + 1, v.heap.objs.size], FpOk X ps G b := fun b m => by
    have up : v.heap.objs.size ≤ b := by
      simp at m
      omega
    exact J.fpOk up (J.hok.fresh up)
  rcases r with ⟨⟨xs, sq⟩, r⟩ | ⟨⟨xs, sq⟩, r⟩
  · obtain ⟨_, _, k, _⟩ := J.list sq
    exact call_enumerate_list k.isList fun g enu iter _ stay => wpAny_pyIter_enum enu ⟨v.heap.objs.size + 1, _, _, _, G, rfl, J.kept (t' := v.toks) stay, turn_enum a (v.heap.objs.size + 1) v.heap.objs.size, ⟨⟨.none, enu⟩, iter, Nat.succ_ne_self _⟩, new, r⟩
  · obtain ⟨its, _, k, _⟩ := J.tuple sq
    exact call_enumT (show v.heap.IsTuple a its.toArray from k) fun g enu iter stay => wpAny_pyIter_enum enu ⟨v.heap.objs.size + 1, _, _, _, G, rfl, J.kept (t' := v.toks) stay, turn_enumT a (v.heap.objs.size + 1) v.heap.objs.size, ⟨⟨.none, enu⟩, iter, Nat.succ_ne_self _⟩, new, r⟩
end NC
namespace NC
open PySem PySem.Spec PyProof.Rows L2
def tx (l : List Nat) : Str := ⟨l.toArray⟩
def upc (c : Nat) : Nat := if 97 ≤ c ∧ c ≤ 122 then c - 32 else c
def lwc (c : Nat) : Nat := if 65 ≤ c ∧ c ≤ 90 then c + 32 else c
def swp (c : Nat) : Nat := if 97 ≤ c ∧ c ≤ 122 then c - 32 else if 65 ≤ c ∧ c ≤ 90 then c + 32 else c
theorem sg_tx (c : Nat) : sg c = tx [c] := rfl
theorem tx_list (l : List Nat) : (tx l).cps.toList = l := by simp [tx]
theorem tx_len (l : List Nat) : (tx l).length = l.length := by show (tx l).cps.size = l.length; simp [tx]
theorem tx_inj {a b : List Nat} (h : tx a = tx b) : a = b := by rw [← tx_list a, h, tx_list]
theorem sg_inj {a b : Nat} (h : sg a = sg b) : a = b := by
  have := tx_inj (a := [a]) (b := [b]) h
  simpa using this
theorem tx_app (a b : List Nat) : tx a ++ tx b = tx (a ++ b) := by
  show Str.mk (a.toArray ++ b.toArray) = Str.mk (a ++ b).toArray
  simp
theorem sgs_tx (l : List Nat) : sgs (tx l) = l.map sg := by simp [sgs, tx_list]
theorem up1_eq : ∀ c : Nat, c < 128 → up1 c = upc c := by
  have h : ∀ c : Fin 128, up1 c.val = upc c.val := by decide +kernel
  exact fun c hc => h ⟨c, hc⟩
theorem lo1_eq : ∀ c : Nat, c < 128 → lo1 c = lwc c := by
  have h : ∀ c : Fin 128, lo1 c.val = lwc c.val := by decide +kernel
  exact fun c hc => h ⟨c, hc⟩
theorem upper_tx {l : List Nat} (h : ∀ c ∈ l, c < 128) : Txt.upper (tx l) = tx (l.map upc) := by
  rw [upper_ascii (by rw [tx_list]; exact h)]
  show Str.mk (l.toArray.map up1) = Str.mk (l.map upc).toArray
  rw [List.map_toArray, List.map_congr_left fun c hc => up1_eq c (h c hc)]
theorem lower_tx {l : List Nat} (h : ∀ c ∈ l, c < 128) : Txt.lower (tx l) = tx (l.map lwc) := by
  rw [lower_ascii (by rw [tx_list]; exact h)]
  show Str.mk (l.toArray.map lo1) = Str.mk (l.map lwc).toArray
  rw [List.map_toArray, List.map_congr_left fun c hc => lo1_eq c (h c hc)]
theorem swap_sg : ∀ c : Nat, c < 128 → Txt.swapcase (sg c) = sg (swp c) := by
  have h : ∀ c : Fin 128, Txt.swapcase (sg c.val) = sg (swp c.val) := by decide +kernel
  exact fun c hc => h ⟨c, hc⟩
structure GoodW (l : List Nat) : Prop where
  lo : 1 ≤ l.length
  hi : l.length ≤ 12
  sm : ∀ c ∈ l, 97 ≤ c ∧ c ≤ 122
  rise : l.Pairwise (· < ·)
def sds (l : List Nat) : List Nat := l.map upc ++ l
theorem GoodW.asc {l : List Nat} (g : GoodW l) : ∀ c ∈ l, c < 128 := fun c h => by have := g.sm c h; omega
theorem GoodW.nd {l : List Nat} (g : GoodW l) : l.Nodup := g.rise.imp fun h => Nat.ne_of_lt h
theorem upc_small {c : Nat} (h : 97 ≤ c ∧ c ≤ 122) : upc c = c - 32 := by unfold upc; rw [if_pos h]
theorem sds_shape {l : List Nat} (g : GoodW l) {s : Nat} (h : s ∈ sds l) : (97 ≤ s ∧ s ≤ 122 ∧ s ∈ l) ∨ (65 ≤ s ∧ s ≤ 90 ∧ s + 32 ∈ l) := by
  rcases List.mem_append.mp h with q | q
  · obtain ⟨c, hc, e⟩ := List.mem_map.mp q
    have := g.sm c hc
    rw [upc_small this] at e
    exact .inr ⟨by omega, by omega, by rw [← e, show c - 32 + 32 = c by omega]; exact hc⟩
  · have := g.sm s q
    exact .inl ⟨this.1, this.2, q⟩
theorem sds_of_small {l : List Nat} {s : Nat} (h : s ∈ l) : s ∈ sds l := List.mem_append_right _ h
theorem sds_of_great {l : List Nat} (g : GoodW l) {c : Nat} (h : c ∈ l) : c - 32 ∈ sds l := by
  refine List.mem_append_left _ (List.mem_map.mpr ⟨c, h, upc_small (g.sm c h)⟩)
theorem sds_swp {l : List Nat} (g : GoodW l) {s : Nat} (h : s ∈ sds l) : swp s ∈ sds l := by
  rcases sds_shape g h with ⟨a, b, q⟩ | ⟨a, b, q⟩
  · rw [show swp s = s - 32 by unfold swp; rw [if_pos ⟨a, b⟩]]
    exact sds_of_great g q
  · rw [show swp s = s + 32 by unfold swp; rw [if_neg (by omega), if_pos ⟨a, b⟩]]
    exact sds_of_small q
theorem sds_asc {l : List Nat} (g : GoodW l) {s : Nat} (h : s ∈ sds l) : s < 128 := by
  rcases sds_shape g h with q | q <;> omega
theorem sds_len {l : List Nat} (g : GoodW l) : (sds l).length ≤ 24 := by
  unfold sds
  rw [List.length_append, List.length_map]
  have := g.hi
  omega
theorem sds_nd {l : List Nat} (g : GoodW l) : (sds l).Nodup := by
  refine List.nodup_append.mpr ⟨?_, g.nd, fun a ha b hb e => ?_⟩
  · refine List.pairwise_map.mpr (g.rise.imp_of_mem fun {a b} ha hb h e => ?_)
    have := g.sm a ha
    have := g.sm b hb
    rw [upc_small (by omega), upc_small (by omega)] at e
    omega
  · obtain ⟨c, hc, e2⟩ := List.mem_map.mp ha
    have h1 := g.sm c hc
    have h2 := g.sm b hb
    rw [upc_small h1] at e2
    omega
/-- is_bar -/
def isBar (l b : List Nat) : Bool := match b with
  | [x, y] => decide (x ∈ sds l) && (decide (y ∈ sds l) && decide (lwc x < lwc y))
  | _ => false
theorem lt1 (a b : Nat) : ([a] : List Nat) < [b] ↔ a < b := by simp [List.cons_lt_cons_iff]
theorem same_upd {H : Hp} {p : Addr} {o : HO} (h : H p = none) : Same H (upd H p o) := fun b x e => by
  rw [upd_ne (ne_of_none e h)]
  exact e
theorem sm_t {K : PySem.W.Frag} {H H' : Hp} {a : Addr} {xs : List V} (e : Same H H') (h : SqT K H a xs) : SqT K H' a xs := by
  rcases h with (h | ⟨o, h⟩) | h
  · exact .inl (.inl (e _ _ h))
  · exact .inl (.inr ⟨o, e _ _ h⟩)
  · exact .inr h
theorem yes_i {σ : L2.St} {H : Hp} {A B : Hp → Prop} (h : A H) : tYes σ H (fun b H3 => if b = true then A H3 else B H3) := show (if true = true then A H else B H) from iteT h
theorem sm_trans {H H1 H2 : Hp} (a : Same H H1) (b : Same H1 H2) : Same H H2 := fun c o h => b c o (a c o h)
theorem sm_upd {H H1 : Hp} {p : Addr} {o : HO} (e : Same H H1) (h : H1 p = none) : Same H (upd H1 p o) := sm_trans e (same_upd h)
/-- a store at what was new -/
theorem sm_over {H H1 : Hp} {p : Addr} {o : HO} (e : Same H H1) (h : H p = none) : Same H (upd H1 p o) := fun b x hb => by
  rw [upd_ne (ne_of_none hb h)]
  exact e b x hb
theorem sm_l {K : PySem.W.Frag} {H H' : Hp} {a : Addr} {xs : List V} (e : Same H H') (h : SqL K H a xs) : SqL K H' a xs := L2.Same.seq e h
theorem inV_str (x : Str) (ys : List Str) : inV (.str x) (ys.map V.str) = decide (x ∈ ys) := by
  unfold inV
  rw [List.any_map]
  induction ys with
  | nil => rfl
  | cons y r ih =>
    rw [List.any_cons, ih]
    by_cases e : y = x
    · subst e
      simp [eqV]
    · have e2 : ¬ x = y := fun z => e z.symm
      have q : eqV (.str y) (.str x) = false := by
        show (y == x) = false
        simpa using e
      show (eqV (.str y) (.str x) || _) = _
      rw [q]
      simp [e2]
theorem flat_str (ys : List Str) : (ys.map V.str).all flatV = true := by
  rw [List.all_map]
  exact List.all_eq_true.mpr fun _ _ => rfl
theorem mem_sg {c : Nat} {l : List Nat} : sg c ∈ l.map sg ↔ c ∈ l := by
  constructor
  · intro h
    obtain ⟨d, hd, e⟩ := List.mem_map.mp h
    rw [← sg_inj e]
    exact hd
  · exact fun h => List.mem_map.mpr ⟨c, h, rfl⟩
end NC
namespace NC
open PySem PySem.Spec PyProof.Rows L2
def topS (i : Nat) : Stmt := PySem.Challenge.pw_nearcall_k18_turns_refused.main.body.getD i (.Pass ⟨0, 0, 0, 0⟩)
abbrev sOther : Stmt := topS 19
abbrev sSides : Stmt := topS 20
abbrev sByWalls : Stmt := topS 21
abbrev sIsWalls : Stmt := topS 22
abbrev sIsBar : Stmt := topS 23
abbrev sChkWalls : Stmt := topS 24
abbrev sChkBars : Stmt := topS 25
abbrev sChkSide : Stmt := topS 26
/-- the built-ins are the built-ins -/
structure BM (mg : Str → Option Value) : Prop where
  list : mg "list" = none
  sorted : mg "sorted" = none
  set : mg "set" = none
  all : mg "all" = none
  len : mg "len" = none
  enumerate : mg "enumerate" = none
  range : mg "range" = none
  isinstance : mg "isinstance" = none
  tuple : mg "tuple" = none
/-- a def of the top, by its name -/
structure DF (K : PySem.W.Frag) (mg : Str → Option Value) (x : Str) (st : Stmt) (ps : List Str) (f : Addr) (fd : FuncData) : Prop where
  F : Fun K x x st f fd
  g : mg x = some (.ref f)
  b : Binds K fd ps []
theorem scOther : FnScope ["side"] ["side"] (defScope sOther) := ⟨rfl, rfl, rfl, by decide +kernel, rfl, by decide +kernel, by decide +kernel⟩
theorem scSides : FnScope ["walls"] ["walls"] (defScope sSides) := ⟨rfl, rfl, rfl, by decide +kernel, rfl, by decide +kernel, by decide +kernel⟩
theorem scIsBar : FnScope ["walls", "bar", "sides"] ["walls", "bar"] (defScope sIsBar) := ⟨rfl, rfl, rfl, by decide +kernel, rfl, by decide +kernel, by decide +kernel⟩
theorem scChkSide : FnScope ["walls", "side"] ["walls", "side"] (defScope sChkSide) := ⟨rfl, rfl, rfl, by decide +kernel, rfl, by decide +kernel, by decide +kernel⟩
section
variable {P : Program} {w : World} {K : PySem.W.Frag} {mg : Str → Option Value} {base : Heap}
def spOther : Sp := fun vs H Q _ => ∃ c, vs = [.str (sg c)] ∧ c < 128 ∧ Q (.str (sg (swp c))) H
theorem ok_other {f : Addr} {fd : FuncData} {k : Nat} (F : Fun K "other" "other" sOther f fd) : FnOk P w K mg base CX0 (k + 1) f fd ["side"] spOther := by
  refine F.ok scOther (fun vs H Q E h => ?_) (fun cdv A outer s H vs Q E hr h => ?_)
  · obtain ⟨c, rfl, _⟩ := h
    rfl
  · obtain ⟨c, rfl, hc, q⟩ := h
    refine ⟨_, pss_one (ps_ret (pe_m0 PySem.F.slot_str_swapcase PySem.F.type_str_swapcase mt_swap (pv 0))), ?_⟩
    refine ⟨_, rfl, ⟨_, rfl⟩, _, rfl, rfl, by show 1 ≤ 1000; decide, ?_⟩
    rw [swap_sg c hc]
    exact q
def spSides : Sp := fun vs H Q _ => ∃ l, vs = [.str (tx l)] ∧ (∀ c ∈ l, c < 128) ∧ l.length ≤ 100 ∧ ∀ p, H p = none → Q (.ref p) (upd H p (.lst (((sds l).map sg).map V.str)))
theorem ok_sides {f : Addr} {fd : FuncData} {k : Nat} (B : BM mg) (F : Fun K "sides_of" "sides_of" sSides f fd) : FnOk P w K mg base CX0 (k + 1) f fd ["walls"] spSides := by
  refine F.ok scSides (fun vs H Q E h => ?_) (fun cdv A outer s H vs Q E hr h => ?_)
  · obtain ⟨c, rfl, _⟩ := h
    rfl
  · obtain ⟨l, rfl, hl, hz, q⟩ := h
    refine ⟨_, pss_one (ps_ret (pe_callTy (cr_listS rfl) (by rfl) B.list (by decide +kernel) (pa_cons (pe_op op_add_str (pe_upper (pv 0)) (pv 0)) pa_nil))), ?_⟩
    refine ⟨_, rfl, ⟨_, rfl⟩, _, rfl, rfl, by rw [tx_len]; omega, ?_⟩
    rw [upper_tx hl]
    refine ⟨_, rfl, _, _, rfl, rfl, by rw [tx_len, tx_len, List.length_map, sizeLine_eq]; omega, ?_⟩
    rw [tx_app]
    refine ⟨_, rfl, by rw [tx_len, List.length_append, List.length_map, sizeLine_eq]; omega, fun p hp => ?_⟩
    rw [sgs_tx]
    exact q p hp
def spIsBar : Sp := fun vs H Q _ => ∃ l b, vs = [.str (tx l), .str (tx b)] ∧ (∀ c ∈ l, c < 128) ∧ l.length ≤ 100 ∧ (∀ c ∈ b, c < 128) ∧ b.length ≤ 100 ∧ ∀ H', Same H H' → Q (.bl (isBar l b)) H'
theorem ok_isBar {f fS : Addr} {fd fdS : FuncData} {k : Nat} (B : BM mg) (F : Fun K "is_bar" "is_bar" sIsBar f fd) (S : DF K mg "sides_of" sSides ["walls"] fS fdS) : FnOk P w K mg base CX0 (k + 2) f fd ["walls", "bar"] spIsBar := by
  have GS : FnOk P w K mg base CX0 (k + 1) fS fdS ["walls"] spSides := ok_sides B S.F
  refine F.ok scIsBar (fun vs H Q E h => ?_) (fun cdv A outer s H vs Q E hr h => ?_)
  · obtain ⟨l, b, rfl, _⟩ := h
    rfl
  · obtain ⟨l, b, rfl, hl, hlz, hb, hbz, q⟩ := h
    have hbs : (tx b).length ≤ sizeLine := by rw [tx_len, sizeLine_eq]; omega
    refine ⟨_, pss_cons (ps_set (i := 2) scIsBar.nd rfl (.inl rfl) (pe_call GS hr rfl S.g S.F.kp S.b .nil pass0 (pa_cons (pv 0) pa_nil)))
      (pss_cons (ps_if (PW.pt (pw_or (pt_cmpR op_ne (pe_callB call_len_str (by rfl) B.len PySem.boot_len (pa_cons (pv 1) pa_nil)) pe_int (nomark _))
          (pw_or (pt_cmpR op_notIn_seq (pe_ix ix_str (pv 1) pe_int (fun _ _ => rfl)) (pv 2) (by rfl))
            (pw_or1 (pt_cmpR op_notIn_seq (pe_ix ix_str (pv 1) pe_int (fun _ _ => rfl)) (pv 2) (by rfl))))))
        (pss_one (ps_ret pe_bl)) pss_nil)
      (pss_one (ps_ret (pe_cmpR op_lt_str (pe_lower (pe_ix ix_str (pv 1) pe_int (fun _ _ => rfl))) (pe_lower (pe_ix ix_str (pv 1) pe_int (fun _ _ => rfl))) (nomark _))))), ?_⟩
    refine ⟨_, rfl, l, rfl, hl, hlz, fun p hp => ?_⟩
    have sm : Same H (upd H p (.lst (((sds l).map sg).map V.str))) := same_upd hp
    have hS : SqL K (upd H p (.lst (((sds l).map sg).map V.str))) p (((sds l).map sg).map V.str) := SqL.of upd_same
    have ix : ∀ c, inV (.str (sg c)) (((sds l).map sg).map V.str) = decide (c ∈ sds l) := fun c => by
      rw [inV_str]
      by_cases hm : c ∈ sds l
      · rw [decide_eq_true hm, decide_eq_true (mem_sg.mpr hm)]
      · rw [decide_eq_false hm, decide_eq_false fun z => hm (mem_sg.mp z)]
    refine ⟨_, rfl, _, rfl, hbs, rfl, _, rfl, ite2 (fun e => ?_) (fun e => ?_)⟩
    · have hn : b.length ≠ 2 := fun z => by
        rw [tx_len, z] at e
        exact absurd e (by decide)
      have e0 : isBar l b = false := by
        match b, hn with
        | [], _ => rfl
        | [_], _ => rfl
        | [_, _], hn => exact absurd rfl hn
        | _ :: _ :: _ :: _, _ => rfl
      refine iteT (show Q (.bl false) _ from ?_)
      rw [← e0]
      exact q _ sm
    · have hn : b.length = 2 := by
        have e1 : decide (V.int ↑(tx b).length = V.int 2) = true := by simpa using e
        have e2 : ((tx b).length : Int) = 2 := V.int.inj (of_decide_eq_true e1)
        rw [tx_len] at e2
        omega
      obtain ⟨x, y, rfl⟩ : ∃ x y, b = [x, y] := by
        match b, hn with
        | [x, y], _ => exact ⟨x, y, rfl⟩
      refine ⟨_, rfl, _, _, x, rfl, rfl, hbs, rfl, _, rfl, p, _, rfl, .inl hS, rfl, flat_str _, _, rfl, ite2 (fun e1 => ?_) (fun e1 => ?_)⟩
      · have e1 : (!inV (.str (sg x)) (((sds l).map sg).map V.str)) = true := e1
        rw [ix] at e1
        have e0 : isBar l [x, y] = false := by
          show (decide (x ∈ sds l) && _) = false
          simp only [Bool.not_eq_true'] at e1
          rw [e1]; rfl
        refine iteT (show Q (.bl false) _ from ?_)
        rw [← e0]
        exact q _ sm
      · have e1 : ¬ (!inV (.str (sg x)) (((sds l).map sg).map V.str)) = true := e1
        rw [ix] at e1
        have hx : decide (x ∈ sds l) = true := by simpa using e1
        refine ⟨_, rfl, _, _, y, rfl, rfl, hbs, rfl, _, rfl, p, _, rfl, .inl hS, rfl, flat_str _, _, rfl, ite2 (fun e2 => ?_) (fun e2 => ?_)⟩
        · have e2 : (!inV (.str (sg y)) (((sds l).map sg).map V.str)) = true := e2
          rw [ix] at e2
          have e0 : isBar l [x, y] = false := by
            show (decide (x ∈ sds l) && (decide (y ∈ sds l) && _)) = false
            simp only [Bool.not_eq_true'] at e2
            rw [e2]; simp
          show Q (.bl false) _
          rw [← e0]
          exact q _ sm
        · have e2 : ¬ (!inV (.str (sg y)) (((sds l).map sg).map V.str)) = true := e2
          rw [ix] at e2
          have hy : decide (y ∈ sds l) = true := by simpa using e2
          refine ⟨_, rfl, _, _, x, rfl, rfl, hbs, rfl, ⟨_, rfl⟩, _, rfl, rfl, by show 1 ≤ 5592405; decide, _, rfl, _, _, y, rfl, rfl, hbs, rfl, ⟨_, rfl⟩, _, rfl, rfl, by show 1 ≤ 5592405; decide, ?_⟩
          rw [show Txt.lower (⟨#[x]⟩ : Str) = tx [lwc x] from lower_tx (l := [x]) (fun c hc => hb c (by simp at hc; simp [hc])), show Txt.lower (⟨#[y]⟩ : Str) = tx [lwc y] from lower_tx (l := [y]) (fun c hc => hb c (by simp at hc; simp [hc]))]
          refine ⟨_, _, rfl, rfl, ?_⟩
          have e0 : decide ((tx [lwc x]).cps.toList < (tx [lwc y]).cps.toList) = isBar l [x, y] := by
            show _ = (decide (x ∈ sds l) && (decide (y ∈ sds l) && decide (lwc x < lwc y)))
            rw [hx, hy, tx_list, tx_list]
            simp [lt1]
          rw [e0]
          exact q _ sm
end
end NC
namespace NC
open PySem PySem.Spec PyProof.Rows L2
def leS (a b : Str) : Prop := a.cps.toList ≤ b.cps.toList
theorem ltc_iff (a b : List Nat) : ltCps a b = decide (a < b) := by
  induction a generalizing b with
  | nil => cases b <;> simp [ltCps]
  | cons x r ih =>
    cases b with
    | nil => simp [ltCps]
    | cons y s =>
      simp only [ltCps, ih, List.cons_lt_cons_iff]
      by_cases h1 : x < y
      · simp [h1]
      · by_cases h2 : x = y
        · subst h2; simp
        · simp [h1, h2]
theorem rise_pw : ∀ (l : List Str) (p : Str), risingS p l = true → (p :: l).Pairwise leS
  | [], p, _ => by simp
  | x :: r, p, h => by
    have h' : (!ltCps x.cps.toList p.cps.toList && risingS x r) = true := h
    rw [Bool.and_eq_true] at h'
    have q := rise_pw r x h'.2
    have hpx : leS p x := by
      have z := h'.1
      rw [ltc_iff] at z
      simpa [leS] using z
    refine List.pairwise_cons.mpr ⟨fun y hy => ?_, q⟩
    rcases List.mem_cons.mp hy with e | e
    · rw [e]; exact hpx
    · exact List.le_trans hpx ((List.pairwise_cons.mp q).1 y e)
theorem sortedS_pw : ∀ l : List Str, sortedS l = true → l.Pairwise leS
  | [], _ => List.Pairwise.nil
  | x :: r, h => rise_pw r x h
theorem str_ext {a b : Str} (h : a.cps.toList = b.cps.toList) : a = b := by
  cases a; cases b
  simp at h
  rw [h]
theorem sortedS_eq {ys zs : List Str} (h : sortedS ys = true) (p : ys.Perm zs) (hz : zs.Pairwise leS) : ys = zs :=
  p.eq_of_pairwise (fun a b _ _ h1 h2 => str_ext (List.le_antisymm h1 h2)) (sortedS_pw ys h) hz
theorem leS_sg {a b : Nat} (h : a ≤ b) : leS (sg a) (sg b) := by
  show ([a] : List Nat) ≤ [b]
  rw [List.cons_le_cons_iff]
  by_cases e : a = b
  · exact .inr ⟨e, List.le_refl _⟩
  · exact .inl (by omega)
theorem GoodW.pw {l : List Nat} (g : GoodW l) : (l.map sg).Pairwise leS := List.pairwise_map.mpr (g.rise.imp fun h => leS_sg (Nat.le_of_lt h))
theorem eqvAll_strs : ∀ xs ys : List Str, PyData.eqvAll (xs.map .str) (ys.map .str) = decide (xs = ys)
  | [], [] => rfl
  | [], _ :: _ => rfl
  | _ :: _, [] => rfl
  | x :: r, y :: s => by
    show ((x == y) && PyData.eqvAll (r.map .str) (s.map .str)) = _
    rw [eqvAll_strs r s]
    by_cases h1 : x = y
    · subst h1
      by_cases h2 : r = s
      · simp [h2]
      · simp [h2]
    · simp [h1]
def okS (x : Str) : Prop := ∀ c ∈ x.cps.toList, c < 128
theorem okS_tx {l : List Nat} (h : ∀ c ∈ l, c < 128) : okS (tx l) := by unfold okS; rw [tx_list]; exact h
theorem okS_sg {c : Nat} (h : c < 128) : okS (sg c) := okS_tx (l := [c]) fun d hd => by simp at hd; omega
theorem strOk_of {x : Str} (h : okS x) : PyData.strOk x = true := by
  unfold PyData.strOk
  rw [← Array.all_toList, List.all_eq_true]
  intro c hc
  have := h c hc
  simp
  omega
theorem canAll_strs : ∀ xs : List Str, (∀ x ∈ xs, okS x) → PyData.canLayAll0 (xs.map .str) = true
  | [], _ => rfl
  | x :: r, h => by
    show (PyData.strOk x && PyData.canLayAll0 (r.map .str)) = true
    rw [strOk_of (h x (List.mem_cons_self ..)), canAll_strs r fun y hy => h y (List.mem_cons_of_mem _ hy)]
    rfl
theorem depAll_strs : ∀ xs : List Str, PyData.depthAll (xs.map .str) = 0
  | [] => rfl
  | x :: r => by
    show max 0 (PyData.depthAll (r.map .str)) = 0
    rw [depAll_strs r]
    rfl
theorem shaped_strs {xs : List Str} (h : ∀ x ∈ xs, okS x) : SeqAt.shaped (.list (xs.map .str)) = true := by
  show (PyData.canLayAll0 (xs.map .str) && decide (PyData.depthAll (xs.map .str) + 1 ≤ 64)) = true
  rw [canAll_strs xs h, depAll_strs]
  rfl
theorem dpAll_strs {K : PySem.W.Frag} {H : Hp} : ∀ xs : List Str, DpAll K H (xs.map V.str) (xs.map .str)
  | [] => .nil
  | x :: r => .cons (.str x) (dpAll_strs r)
end NC
namespace NC
open PySem PySem.Spec PyProof.Rows L2
theorem scIsWalls : FnScope ["walls", "small", "letter"] ["walls"] (defScope sIsWalls) := ⟨rfl, rfl, rfl, by decide +kernel, rfl, by decide +kernel, by decide +kernel⟩
theorem scChkWalls : FnScope ["walls"] ["walls"] (defScope sChkWalls) := ⟨rfl, rfl, rfl, by decide +kernel, rfl, by decide +kernel, by decide +kernel⟩
theorem scByWalls : FnScope ["walls", "sides", "wall", "side"] ["walls", "sides"] (defScope sByWalls) := ⟨rfl, rfl, rfl, by decide +kernel, rfl, by decide +kernel, by decide +kernel⟩
theorem strA : (Str.ofString "a") = sg 97 := by decide +kernel
theorem strZ : (Str.ofString "z") = sg 122 := by decide +kernel
section
variable {P : Program} {w : World} {K : PySem.W.Frag} {mg : Str → Option Value} {base : Heap}
def spIsWalls : Sp := fun vs H Q _ => ∃ l, vs = [.str (tx l)] ∧ GoodW l ∧ ∀ H', Same H H' → Q (.bl true) H'
theorem ok_isWalls {f : Addr} {fd : FuncData} {k : Nat} {tw : Tok} (B : BM mg) (mW : mg "WIDEST" = some (.int 12 tw)) (F : Fun K "is_walls" "is_walls" sIsWalls f fd) : FnOk P w K mg base CX0 (k + 1) f fd ["walls"] spIsWalls := by
  refine F.ok scIsWalls (fun vs H Q E h => ?_) (fun cdv A outer s H vs Q E hr h => ?_)
  · obtain ⟨l, rfl, _⟩ := h
    rfl
  · obtain ⟨l, rfl, g, q⟩ := h
    have hlz : (tx l).length ≤ sizeLine := by rw [tx_len, sizeLine_eq]; have := g.hi; omega
    refine ⟨_, pss_cons (ps_set (i := 1) scIsWalls.nd rfl (.inl rfl) (pe_callB (cr_all rfl) (by rfl) B.all (by decide +kernel) (pa_cons
        (pe_lc (own := [("letter", 2)]) (g := gName 2) (tt := tYes) rfl scIsWalls.nd (pi_str (pv 0)) (blkOk_by (N := ["walls", "small", "letter"]) (sc := defScope sIsWalls) (by decide +kernel))
          (fun _ _ _ _ _ => pg_name (i := 2) scIsWalls.nd rfl (Or.inl rfl)) (fun _ _ _ _ _ => pts_nil) (fun _ _ _ _ _ => pe_chain op_le_str op_le_str pe_str (pv 2) pe_str)) pa_nil)))
      (pss_one (ps_ret (pe_and (pv 1) (pe_and (pe_chain op_le op_le pe_int (pe_callB call_len_str (by rfl) B.len PySem.boot_len (pa_cons (pv 0) pa_nil)) (pe_glob (v := .int 12) rfl mW ⟨_, rfl⟩))
        (pe_one (pe_cmpR (op_eqD hr.units) (pe_callB (cr_sortedSetT rfl) (by rfl) B.sorted (by decide +kernel) (pa_cons (pe_callTy (cr_setT rfl) (by rfl) B.set (by decide +kernel) (pa_cons (pv 0) pa_nil)) pa_nil))
          (pe_callTy (cr_listS rfl) (by rfl) B.list (by decide +kernel) (pa_cons (pv 0) pa_nil)) (nomark _))))))), ?_⟩
    refine ⟨_, rfl, tx l, rfl, fun D hD => lc_it walk_str (fun i H' => ∃ n : Nat, n = i ∧ Same H H' ∧ H' D = some (.lst ((List.replicate i true).map V.bl))) ⟨0, rfl, same_upd hD, upd_same⟩ (fun _ _ _ _ => trivial) ?_ ?_⟩
    · rintro i x H1 H2 hi ⟨n, rfl, sm, eD⟩ ⟨rfl, c, hc, rfl⟩
      have hcl : c ∈ l := by
        have e : l[n]? = some c := by
          rw [← Array.getElem?_toList, tx_list] at hc
          exact hc
        exact List.mem_of_getElem? e
      have hs := g.sm c hcl
      have hn : n < l.length := by
        have : (tx l).cps.size = l.length := tx_len l
        omega
      refine ⟨rfl, yes_i ⟨_, rfl, _, _, rfl, rfl, true, ?_, iteT ⟨_, _, rfl, rfl, ?_⟩⟩⟩
      · rw [strA]
        show V.bl (!decide (([c] : List Nat) < [97])) = .bl true
        rw [decide_eq_false (by rw [lt1]; omega)]
        rfl
      · have e2 : (!decide ((Str.ofString "z").cps.toList < (⟨#[c]⟩ : Str).cps.toList)) = true := by
          rw [strZ]
          show (!decide (([122] : List Nat) < [c])) = true
          rw [decide_eq_false (by rw [lt1]; omega)]
          rfl
        rw [e2]
        refine ⟨_, eD, ?_, _, rfl, ?_, ?_⟩
        · rw [List.length_map, List.length_replicate, sizeLine_eq]
          have := g.hi
          omega
        · exact sm_over sm hD
        · rw [upd_same, List.replicate_succ', List.map_append]
          rfl
    · rintro H1 ⟨n, rfl, sm, eD⟩
      refine ⟨_, _, rfl, SqL.of eD, ?_⟩
      have ea : (List.replicate (tx l).cps.size true).all id = true := by simp
      rw [ea]
      refine ⟨_, rfl, true, rfl, iteT ⟨_, rfl, _, rfl, hlz, _, _, rfl, rfl, true, ?_, iteT ⟨_, _, rfl, rfl, true, ?_, iteT ?_⟩⟩⟩
      · show V.bl (decide ((1 : Int) ≤ ((tx l).length : Int))) = .bl true
        rw [tx_len, decide_eq_true (by have := g.lo; omega)]
      · show V.bl (decide (((tx l).length : Int) ≤ 12)) = .bl true
        rw [tx_len, decide_eq_true (by have := g.hi; omega)]
      · refine ⟨_, rfl, tx l, rfl, ?_, by rw [tx_list]; exact g.nd, by rw [tx_list]; have := g.hi; omega, fun p z hp hz => ?_⟩
        · rw [← Array.all_toList, tx_list, List.all_eq_true]
          intro c hc
          have := g.asc c hc
          simpa using this
        · rw [sgs_tx] at hz
          have hnd : (l.map sg).Nodup := List.pairwise_map.mpr (g.nd.imp fun {a b} h e => h (sg_inj e))
          refine ⟨p, z, rfl, upd_same, hz.nodup_iff.mpr hnd, by rw [hz.length_eq, List.length_map]; have := g.hi; omega, fun ys r hy hs hr2 => ?_⟩
          have ey : ys = l.map sg := sortedS_eq hs (hy.trans hz) g.pw
          subst ey
          refine ⟨_, rfl, _, rfl, hlz, fun a ha => ?_⟩
          rw [sgs_tx]
          have hra : r ≠ a := ne_of_none upd_same ha
          have oks : ∀ x ∈ l.map sg, okS x := fun x hx => by
            obtain ⟨c, hc, rfl⟩ := List.mem_map.mp hx
            exact okS_sg (g.asc c hc)
          refine ⟨_, _, .lst (SqL.of (by rw [upd_ne hra, upd_same])) (dpAll_strs _), .lst (SqL.of upd_same) (dpAll_strs _), shaped_strs oks, shaped_strs oks, ?_⟩
          show Q (.bl (PyData.eqvAll _ _)) _
          rw [eqvAll_strs, decide_eq_true rfl]
          exact q _ (sm_upd (sm_upd (sm_upd sm hp) hr2) ha)
end
end NC
namespace NC
open PySem PySem.Spec PyProof.Rows L2
/-- a dict comprehension over a walk -/
theorem dc_it {J : It} {n : Nat} {G : Hp → Prop} {Y : Nat → Hp → V → Hp → Prop} (wk : Walk J n G Y) {g : TG} {tt : TT} {tk tv : TE} {vs : List Nat} {σ : L2.St} {H1 : Hp} {D : Addr} {Qd : Hp → Prop} (Pv : Nat → Hp → Prop)
    (h0 : Pv 0 (upd H1 D (.dK []))) (hG : ∀ i H, i ≤ n → Pv i H → G H)
    (hs : ∀ i x H H', i < n → Pv i H → Y i H x H' → g x (wipe σ vs) H' fun σ2 H2 => wipe σ2 vs = wipe σ vs ∧ tt σ2 H2 fun b H3 =>
      if b = true then tk σ2 H3 fun y H4 => tv σ2 H4 fun z H5 => ∃ kvs k, y = kV k ∧ H5 D = some (.dK kvs) ∧ kvs.length < sizeLine ∧ Pv (i + 1) (upd H5 D (.dK (putK kvs k z))) else Pv (i + 1) H3) (hd : ∀ H, Pv n H → Qd H) :
    ∃ W : Nat → Nat → Hp → Prop, (∃ m, W 0 m (upd H1 D (.dK []))) ∧ ∀ i m H, W i m H →
      (J.stop i H ∧ Qd H) ∨ (J.go i H ∧ ∃ Nx : Hp → Prop, (∀ H', Nx H' → ∃ m', m' < m ∧ W (i + 1) m' H') ∧ ∀ x H', J.yld i H x H' → g x (wipe σ vs) H' fun σ2 H2 => wipe σ2 vs = wipe σ vs ∧ tt σ2 H2 fun b H3 =>
        if b = true then tk σ2 H3 fun y H4 => tv σ2 H4 fun z H5 => ∃ kvs k, y = kV k ∧ H5 D = some (.dK kvs) ∧ kvs.length < sizeLine ∧ Nx (upd H5 D (.dK (putK kvs k z))) else Nx H3) := by
  refine ⟨fun i m H => m = n - i ∧ i ≤ n ∧ Pv i H, ⟨n, by simp, Nat.zero_le _, h0⟩, ?_⟩
  rintro i m H ⟨rfl, hi, p⟩
  have q := hG i H hi p
  rcases Nat.lt_or_ge i n with hlt | hge
  · exact .inr ⟨wk.goes i H hlt q, Pv (i + 1), fun H' p' => ⟨n - (i + 1), by omega, rfl, hlt, p'⟩, fun x H' y => hs i x H H' hlt p (wk.yields i H x H' hlt q y)⟩
  · obtain rfl : i = n := by omega
    exact .inl ⟨wk.stops H q, hd H p⟩
/-- the inner walk of a comprehension of two -/
theorem in_it {J : It} {n : Nat} {G : Hp → Prop} {Y : Nat → Hp → V → Hp → Prop} (wk : Walk J n G Y) {g1 : TG} {tt1 : TT} {te : TE} {vs1 : List Nat} {σ2 : L2.St} {H4 : Hp} {D : Addr} {Nx : Hp → Prop} (Pv : Nat → Hp → Prop)
    (h0 : Pv 0 H4) (hG : ∀ i H, i ≤ n → Pv i H → G H)
    (hs : ∀ i x H H', i < n → Pv i H → Y i H x H' → g1 x (wipe σ2 vs1) H' fun σ3 H5 => wipe σ3 vs1 = wipe σ2 vs1 ∧ tt1 σ3 H5 fun b H6 =>
      if b = true then te σ3 H6 fun y H7 => ∃ acc, H7 D = some (.lst acc) ∧ acc.length < sizeLine ∧ Pv (i + 1) (upd H7 D (.lst (acc ++ [y]))) else Pv (i + 1) H6) (hd : ∀ H, Pv n H → Nx H) :
    ∃ W1 : Nat → Nat → Hp → Prop, (∃ m, W1 0 m H4) ∧ ∀ j k H, W1 j k H →
      (J.stop j H ∧ Nx H) ∨ (J.go j H ∧ ∃ Nx1 : Hp → Prop, (∀ H', Nx1 H' → ∃ k', k' < k ∧ W1 (j + 1) k' H') ∧ ∀ x H', J.yld j H x H' → g1 x (wipe σ2 vs1) H' fun σ3 H5 => wipe σ3 vs1 = wipe σ2 vs1 ∧ tt1 σ3 H5 fun b H6 =>
        if b = true then te σ3 H6 fun y H7 => ∃ acc, H7 D = some (.lst acc) ∧ acc.length < sizeLine ∧ Nx1 (upd H7 D (.lst (acc ++ [y]))) else Nx1 H6) := by
  refine ⟨fun i m H => m = n - i ∧ i ≤ n ∧ Pv i H, ⟨n, by simp, Nat.zero_le _, h0⟩, ?_⟩
  rintro i m H ⟨rfl, hi, p⟩
  have q := hG i H hi p
  rcases Nat.lt_or_ge i n with hlt | hge
  · exact .inr ⟨wk.goes i H hlt q, Pv (i + 1), fun H' p' => ⟨n - (i + 1), by omega, rfl, hlt, p'⟩, fun x H' y => hs i x H H' hlt p (wk.yields i H x H' hlt q y)⟩
  · obtain rfl : i = n := by omega
    exact .inl ⟨wk.stops H q, hd H p⟩
/-- the outer walk of a comprehension of two (no test on the outer) -/
theorem out_it {J : It} {n : Nat} {G : Hp → Prop} {Y : Nat → Hp → V → Hp → Prop} (wk : Walk J n G Y) {H1 : Hp} {D : Addr} {Qd : Hp → Prop} {B : V → Hp → (Hp → Prop) → Prop} (Pv : Nat → Hp → Prop)
    (h0 : Pv 0 (upd H1 D (.lst []))) (hG : ∀ i H, i ≤ n → Pv i H → G H) (hs : ∀ i x H H', i < n → Pv i H → Y i H x H' → B x H' (Pv (i + 1))) (hd : ∀ H, Pv n H → Qd H) :
    ∃ W : Nat → Nat → Hp → Prop, (∃ m, W 0 m (upd H1 D (.lst []))) ∧ ∀ i m H, W i m H →
      (J.stop i H ∧ Qd H) ∨ (J.go i H ∧ ∃ Nx : Hp → Prop, (∀ H', Nx H' → ∃ m', m' < m ∧ W (i + 1) m' H') ∧ ∀ x H', J.yld i H x H' → B x H' Nx) := by
  refine ⟨fun i m H => m = n - i ∧ i ≤ n ∧ Pv i H, ⟨n, by simp, Nat.zero_le _, h0⟩, ?_⟩
  rintro i m H ⟨rfl, hi, p⟩
  have q := hG i H hi p
  rcases Nat.lt_or_ge i n with hlt | hge
  · exact .inr ⟨wk.goes i H hlt q, Pv (i + 1), fun H' p' => ⟨n - (i + 1), by omega, rfl, hlt, p'⟩, fun x H' y => hs i x H H' hlt p (wk.yields i H x H' hlt q y)⟩
  · obtain rfl : i = n := by omega
    exact .inl ⟨wk.stops H q, hd H p⟩
theorem fold_glue (e : Array Nat) (he : e = #[]) : ∀ (r : List (List Nat)) (acc : Array Nat), (r.map tx).foldl (fun acc p => acc ++ e ++ p.cps) acc = acc ++ r.flatten.toArray
  | [], acc => by simp
  | x :: r, acc => by
    rw [List.map_cons, List.foldl_cons, fold_glue e he r, he]
    simp [tx]
theorem join_tx (xs : List (List Nat)) : Txt.join (Str.ofString "") (xs.map tx) = tx xs.flatten := by
  have e0 : (Str.ofString "").cps = #[] := by decide +kernel
  show (⟨((xs.map tx).drop 1).foldl (fun acc p => acc ++ (Str.ofString "").cps ++ p.cps) ((xs.map tx).headD Str.empty).cps⟩ : Str) = _
  cases xs with
  | nil => rfl
  | cons x r =>
    show (⟨(r.map tx).foldl (fun acc p => acc ++ (Str.ofString "").cps ++ p.cps) x.toArray⟩ : Str) = _
    rw [fold_glue _ e0]
    show Str.mk _ = Str.mk _
    simp
/-- ''.join of signs -/
theorem join_sg (l : List Nat) : Txt.join (Str.ofString "") (l.map sg) = tx l := by
  have e2 : ∀ l : List Nat, (l.map fun c => [c]).flatten = l := fun l => by
    induction l with
    | nil => rfl
    | cons x r ih => simp [ih]
  have e := join_tx (l.map fun c => [c])
  rw [List.map_map, e2] at e
  exact e
end NC
namespace NC
open PySem PySem.Spec PyProof.Rows L2
/-- by_walls, the other part a dict -/
def inK (kvs : List (Key × V)) (c : Nat) : Bool := (valV kvs (Sum.inr (sg c))).isSome
def byW (l : List Nat) (kvs : List (Key × V)) : List Nat := l.flatMap fun c => [swp c, c].filter (inK kvs)
theorem byW_len (l : List Nat) (kvs : List (Key × V)) : (byW l kvs).length ≤ 2 * l.length := by
  induction l with
  | nil => simp [byW]
  | cons x r ih =>
    have h1 : (byW (x :: r) kvs) = [swp x, x].filter (inK kvs) ++ byW r kvs := by simp [byW]
    rw [h1, List.length_append, List.length_cons]
    have h2 : ([swp x, x].filter (inK kvs)).length ≤ 2 := List.length_filter_le _ _
    omega
theorem byW_mem {l : List Nat} (g : GoodW l) {kvs : List (Key × V)} {s : Nat} (h : s ∈ byW l kvs) : s ∈ sds l ∧ inK kvs s = true := by
  obtain ⟨c, hc, hs⟩ := List.mem_flatMap.mp h
  obtain ⟨h1, h2⟩ := List.mem_filter.mp hs
  refine ⟨?_, h2⟩
  rcases List.mem_cons.mp h1 with e | e
  · rw [e]; exact sds_swp g (sds_of_small hc)
  · rw [List.mem_singleton.mp e]; exact sds_of_small hc
theorem byW_snoc (l : List Nat) (n : Nat) (c : Nat) (kvs : List (Key × V)) (h : l[n]? = some c) : byW (l.take (n + 1)) kvs = byW (l.take n) kvs ++ [swp c, c].filter (inK kvs) := by
  rw [List.take_add_one, h]
  unfold byW
  rw [List.flatMap_append]
  simp
section
variable {P : Program} {w : World} {K : PySem.W.Frag} {mg : Str → Option Value} {base : Heap}
def spByWalls : Sp := fun vs H Q _ => ∃ l d kvs, vs = [.str (tx l), .ref d] ∧ GoodW l ∧ H d = some (.dK kvs) ∧ ∀ H', Same H H' → Q (.str (tx (byW l kvs))) H'
set_option maxHeartbeats 1000000 in
theorem ok_byWalls {f fO : Addr} {fd fdO : FuncData} {k : Nat} (B : BM mg) (F : Fun K "by_walls" "by_walls" sByWalls f fd) (O : DF K mg "other" sOther ["side"] fO fdO) : FnOk P w K mg base CX0 (k + 2) f fd ["walls", "sides"] spByWalls := by
  have GO : FnOk P w K mg base CX0 (k + 1) fO fdO ["side"] spOther := ok_other O.F
  refine F.ok scByWalls (fun vs H Q E h => ?_) (fun cdv A outer s H vs Q E hr h => ?_)
  · obtain ⟨l, d, kvs, rfl, _⟩ := h
    rfl
  · obtain ⟨l, d, kvs, rfl, g, hd, q⟩ := h
    refine ⟨_, pss_one (ps_ret (pe_join pe_str (pe_lc2 (wi1 := iTup K (tTup (tCons (tCall spOther [] E0 (tCons (tVar 2) tNil)) (tCons (tVar 2) tNil)))) (own := [("wall", 2), ("side", 3)]) (vs1 := [3]) (g := gName 2) (g1 := gName 3) (tt := tYes) rfl scByWalls.nd (pi_str (pv 0))
      (blkOk_by (N := ["walls", "sides", "wall", "side"]) (sc := defScope sByWalls) (by decide +kernel)) (by decide)
      (fun _ _ _ _ _ => pg_name (i := 2) scByWalls.nd rfl (Or.inl rfl)) (fun _ _ _ _ _ => pts_nil)
      (fun _ _ _ _ _ => pi_tup (pe_tup (pa_cons (pe_call GO hr rfl O.g O.F.kp O.b .nil pass0 (pa_cons (pv 2) pa_nil)) (pa_cons (pv 2) pa_nil))))
      (fun _ _ _ _ _ => pg_name (i := 3) scByWalls.nd rfl (Or.inl rfl))
      (fun _ _ _ _ _ => pts_one (pt_cmp (pc_din (hu_of hr) (pv 3) (pv 1)))) (fun _ _ _ _ _ => pv 3)))), ?_⟩
    refine ⟨⟨_, rfl⟩, _, rfl, tx l, rfl, fun D hD => ?_⟩
    have nDd : d ≠ D := ne_of_none hd hD
    refine out_it walk_str (fun i H' => Same H H' ∧ H' D = some (.lst (((byW (l.take i) kvs).map sg).map V.str))) ⟨same_upd hD, upd_same⟩ (fun _ _ _ _ => trivial) ?_ ?_
    · rintro i x H1 H2 hi ⟨sm, eD⟩ ⟨rfl, c, hc, rfl⟩
      have hcl : l[i]? = some c := by
        rw [← Array.getElem?_toList, tx_list] at hc
        exact hc
      have hca : c < 128 := g.asc c (List.mem_of_getElem? hcl)
      refine ⟨rfl, yes_i ⟨_, rfl, c, rfl, hca, _, rfl, by show 2 ≤ sizeLine; decide, fun T hT => ⟨T, rfl, ⟨_, SqT.of upd_same⟩, ?_⟩⟩⟩
      have nDT : D ≠ T := ne_of_none eD hT
      refine in_it (walk_tup (K := K) (a := T) (xs := [swp c, c].map fun e => V.str (sg e))) (fun j H' => Same H H' ∧ SqT K H' T ([swp c, c].map fun e => V.str (sg e)) ∧ H' D = some (.lst (((byW (l.take i) kvs ++ ([swp c, c].take j).filter (inK kvs)).map sg).map V.str)))
        ⟨sm_upd sm hT, SqT.of upd_same, by rw [upd_ne nDT, eD]; simp⟩ (fun j H' _ h => h.2.1) ?_ ?_
      · rintro j x H3 H4 hj ⟨sm2, hT2, eD2⟩ ⟨rfl, hx⟩
        rw [List.getElem?_map] at hx
        obtain ⟨e, he, rfl⟩ := Option.map_eq_some_iff.mp hx
        have hd4 : H4 d = some (.dK kvs) := sm2 _ _ hd
        have hlen : (byW (l.take i) kvs ++ ([swp c, c].take j).filter (inK kvs)).length ≤ 2 * 12 + 2 := by
          rw [List.length_append]
          have h1 := byW_len (l.take i) kvs
          have h2 : (([swp c, c].take j).filter (inK kvs)).length ≤ 2 := Nat.le_trans (List.length_filter_le _ _) (by rw [List.length_take]; exact Nat.min_le_right _ _)
          have h3 : (l.take i).length ≤ 12 := Nat.le_trans (by rw [List.length_take]; exact Nat.min_le_right _ _) g.hi
          omega
        refine ⟨rfl, _, rfl, _, rfl, d, _, rfl, DGet.k (k := Sum.inr (sg e)) hd4, _, rfl, ite2 (fun ht => ⟨_, rfl, _, eD2, ?_, sm_over sm2 hD, ?_, ?_⟩) (fun ht => ⟨sm2, hT2, ?_⟩)⟩
        · rw [List.length_map, List.length_map, sizeLine_eq]
          omega
        · rcases hT2 with (z | ⟨o, z⟩) | z
          · exact .inl (.inl (by rw [upd_ne (Ne.symm nDT)]; exact z))
          · exact .inl (.inr ⟨o, by rw [upd_ne (Ne.symm nDT)]; exact z⟩)
          · exact .inr z
        · have e1 : inK kvs e = true := ht
          rw [upd_same, List.take_add_one, he, List.filter_append]
          simp [e1, sg_tx]
        · have e1 : inK kvs e = false := by
            unfold inK
            simpa using ht
          rw [eD2, List.take_add_one, he, List.filter_append]
          simp [e1]
      · rintro H3 ⟨sm2, _, eD2⟩
        refine ⟨sm2, ?_⟩
        rw [eD2, byW_snoc l i c kvs hcl]
        rfl
    · rintro H3 ⟨sm2, eD2⟩
      have e1 : (l.take (tx l).cps.size) = l := by
        rw [show (tx l).cps.size = l.length from tx_len l]
        exact List.take_length
      rw [e1] at eD2
      refine ⟨_, _, (byW l kvs).map sg, rfl, rfl, .inl (SqL.of eD2), ?_, ?_⟩
      · have h1 := byW_len l kvs
        have h2 := g.hi
        have h3 : ∀ xs : List Nat, ((xs.map sg).map (·.length)).sum = xs.length := fun xs => by
          induction xs with
          | nil => rfl
          | cons x r ih =>
            rw [List.map_cons, List.map_cons, List.sum_cons, ih, List.length_cons]
            show 1 + r.length = _
            omega
        rw [h3, show (Str.ofString "").length = 0 by decide +kernel]
        omega
      · rw [join_sg]
        exact q _ sm2
end
end NC
namespace NC
open PySem PySem.Spec PyProof.Rows L2
abbrev sHEinit : Stmt := inClass (topS 2) 0
abbrev sBBinit : Stmt := inClass (topS 4) 0
abbrev sFXinit : Stmt := inClass (topS 6) 0
abbrev sALinit : Stmt := inClass (topS 7) 0
theorem scHE : FnScope ["self", "word"] ["self", "word"] (defScope sHEinit) := ⟨rfl, rfl, rfl, by decide +kernel, rfl, by decide +kernel, by decide +kernel⟩
theorem scBB : FnScope ["self", "at"] ["self", "at"] (defScope sBBinit) := ⟨rfl, rfl, rfl, by decide +kernel, rfl, by decide +kernel, by decide +kernel⟩
theorem scFX : FnScope ["self", "side"] ["self", "side"] (defScope sFXinit) := ⟨rfl, rfl, rfl, by decide +kernel, rfl, by decide +kernel, by decide +kernel⟩
theorem scAL : FnScope ["self", "one", "other"] ["self", "one", "other"] (defScope sALinit) := ⟨rfl, rfl, rfl, by decide +kernel, rfl, by decide +kernel, by decide +kernel⟩
/-- HallError, at C, and its __init__ -/
structure HE (K : PySem.W.Frag) (mg : Str → Option Value) (C f : Addr) (fd : FuncData) : Prop where
  gC : mg "HallError" = some (.ref C)
  rd : ∃ mc, ClX.CRead K C mc ∧ PySem.W.findCls K (.ref C) mc "__init__" = some (.val (.ref f))
  F : Fun K "__init__" "HallError.__init__" sHEinit f fd
  b : Binds K fd ["self", "word"] []
  mV : mg "ValueError" = none
  vV : PySem.W.findCls K (.type "ValueError") (.type "type") "__init__" = some (.val (.builtin "ValueError.__init__"))
section
variable {P : Program} {w : World} {K : PySem.W.Frag} {mg : Str → Option Value} {base : Heap}
theorem ok_chkWalls {f fW : Addr} {fd fdW : FuncData} {k : Nat} {tw : Tok} (B : BM mg) (mW : mg "WIDEST" = some (.int 12 tw)) (F : Fun K "check_walls" "check_walls" sChkWalls f fd) (W : DF K mg "is_walls" sIsWalls ["walls"] fW fdW) :
    FnOk P w K mg base CX0 (k + 2) f fd ["walls"] (fun vs H Q _ => ∃ l, vs = [.str (tx l)] ∧ GoodW l ∧ ∀ H', Same H H' → Q .non H') := by
  have GW : FnOk P w K mg base CX0 (k + 1) fW fdW ["walls"] spIsWalls := ok_isWalls B mW W.F
  refine F.ok scChkWalls (fun vs H Q E h => ?_) (fun cdv A outer s H vs Q E hr h => ?_)
  · obtain ⟨l, rfl, _⟩ := h
    rfl
  · obtain ⟨l, rfl, g, q⟩ := h
    refine ⟨_, pss_one (ps_if (pt_not (pt_val (pe_call GW hr rfl W.g W.F.kp W.b .nil pass0 (pa_cons (pv 0) pa_nil)))) (pss_one ps_never) pss_nil), ?_⟩
    exact ⟨_, rfl, l, rfl, g, fun H1 sm => ⟨true, rfl, iteF (q H1 sm)⟩⟩
theorem ok_chkSide {f fS : Addr} {fd fdS : FuncData} {k : Nat} (B : BM mg) (F : Fun K "check_side" "check_side" sChkSide f fd) (S : DF K mg "sides_of" sSides ["walls"] fS fdS) :
    FnOk P w K mg base CX0 (k + 2) f fd ["walls", "side"] (fun vs H Q _ => ∃ l c, vs = [.str (tx l), .str (sg c)] ∧ GoodW l ∧ c ∈ sds l ∧ ∀ H', Same H H' → Q .non H') := by
  have GS : FnOk P w K mg base CX0 (k + 1) fS fdS ["walls"] spSides := ok_sides B S.F
  refine F.ok scChkSide (fun vs H Q E h => ?_) (fun cdv A outer s H vs Q E hr h => ?_)
  · obtain ⟨l, c, rfl, _⟩ := h
    rfl
  · obtain ⟨l, c, rfl, g, hc, q⟩ := h
    refine ⟨_, pss_one (ps_if (pt_cmpR op_notIn_seq (pv 1) (pe_call GS hr rfl S.g S.F.kp S.b .nil pass0 (pa_cons (pv 0) pa_nil)) (by rfl)) (pss_one ps_never) pss_nil), ?_⟩
    refine ⟨_, rfl, _, rfl, l, rfl, g.asc, by have := g.hi; omega, fun p hp => ⟨p, _, rfl, .inl (SqL.of upd_same), rfl, flat_str _, _, rfl, ?_⟩⟩
    have e : (!inV (.str (sg c)) (((sds l).map sg).map V.str)) = false := by
      rw [inV_str, decide_eq_true (mem_sg.mpr hc)]
      rfl
    show if (!inV (.str (sg c)) (((sds l).map sg).map V.str)) = true then _ else _
    rw [e]
    exact iteF (q _ (same_upd hp))
def spHE (K : PySem.W.Frag) : Sp := fun vs H Q _ => ∃ a C v, vs = [.ref a, v] ∧ OexC K C ∧ PySem.W.findIn K (.ref C) "word" = some none ∧ H a = some (exo a C none) ∧
  ∀ dx, H dx = none → dx ≠ a → Q .non (upd (upd H dx (exd dx [("word", v)])) a (exo a C (some dx)))
theorem ok_HE {C f : Addr} {fd : FuncData} {k : Nat} (T : HE K mg C f fd) : FnOk P w K mg base CX0 (k + 1) f fd ["self", "word"] (spHE K) := by
  refine T.F.ok scHE (fun vs H Q E h => ?_) (fun cdv A outer s H vs Q E hr h => ?_)
  · obtain ⟨a, C, v, rfl, _⟩ := h
    rfl
  · obtain ⟨a, C, v, rfl, hO, hw, ha, q⟩ := h
    refine ⟨_, pss_cons (ps_expr (pe_veinit (by rfl) T.mV T.vV (pa_cons (pv 0) (pa_cons (pv 1) pa_nil)))) (pss_one (ps_ost (pv 0) (pv 1))), ?_⟩
    refine ⟨_, rfl, _, rfl, a, C, [v], rfl, by show 1 ≤ 1000; decide, hO, ha, ?_⟩
    exact ⟨_, rfl, _, rfl, a, C, rfl, hO, hw, .inl ⟨ha, fun dx n ne => q dx n ne⟩⟩
/-- a refusal of one field beside its word -/
def sp1 (K : PySem.W.Frag) (fld : Str) (word : Str) : Sp := fun vs H Q _ => ∃ a C v, vs = [.ref a, v] ∧ OexC K C ∧ PySem.W.findIn K (.ref C) "word" = some none ∧ PySem.W.findIn K (.ref C) fld = some none ∧ H a = some (exo a C none) ∧
  ∀ dx H', H dx = none → dx ≠ a → (∀ b, b ≠ dx → b ≠ a → H' b = H b) → H' a = some (exo a C (some dx)) → H' dx = some (exd dx [(fld, v), ("word", .str word)]) → Q .non H'
theorem ok_BB {CH fH f : Addr} {fd fdH : FuncData} {k : Nat} (T : HE K mg CH fH fdH) (F : Fun K "__init__" "BadBar.__init__" sBBinit f fd) : FnOk P w K mg base CX0 (k + 2) f fd ["self", "at"] (sp1 K "at" "badbar") := by
  have GH : FnOk P w K mg base CX0 (k + 1) fH fdH ["self", "word"] (spHE K) := ok_HE T
  obtain ⟨mc, rd, fc⟩ := T.rd
  refine F.ok scBB (fun vs H Q E h => ?_) (fun cdv A outer s H vs Q E hr h => ?_)
  · obtain ⟨a, C, v, rfl, _⟩ := h
    rfl
  · obtain ⟨a, C, v, rfl, hO, hw, hf, ha, q⟩ := h
    refine ⟨_, pss_cons (ps_expr (pe_clsfn (by rfl) T.gC rd fc GH hr T.F.kp T.b .nil pass0 (pa_cons (pv 0) (pa_cons pe_str pa_nil)))) (pss_one (ps_ost (pv 0) (pv 1))), ?_⟩
    refine ⟨_, rfl, a, C, _, rfl, hO, hw, ha, fun dx n ne => ?_⟩
    refine ⟨_, rfl, _, rfl, a, C, rfl, hO, hf, .inr ⟨dx, _, upd_same, by rw [upd_ne ne, upd_same], by show 1 ≤ 900; decide, q dx _ n ne (fun b h1 h2 => ?_) ?_ ?_⟩⟩
    · rw [upd_ne h1, upd_ne h2, upd_ne h1]
    · rw [upd_ne (Ne.symm ne), upd_same]
    · rw [upd_same]
theorem ok_FX {CH fH f : Addr} {fd fdH : FuncData} {k : Nat} (T : HE K mg CH fH fdH) (F : Fun K "__init__" "Fixed.__init__" sFXinit f fd) : FnOk P w K mg base CX0 (k + 2) f fd ["self", "side"] (sp1 K "side" "fixed") := by
  have GH : FnOk P w K mg base CX0 (k + 1) fH fdH ["self", "word"] (spHE K) := ok_HE T
  obtain ⟨mc, rd, fc⟩ := T.rd
  refine F.ok scFX (fun vs H Q E h => ?_) (fun cdv A outer s H vs Q E hr h => ?_)
  · obtain ⟨a, C, v, rfl, _⟩ := h
    rfl
  · obtain ⟨a, C, v, rfl, hO, hw, hf, ha, q⟩ := h
    refine ⟨_, pss_cons (ps_expr (pe_clsfn (by rfl) T.gC rd fc GH hr T.F.kp T.b .nil pass0 (pa_cons (pv 0) (pa_cons pe_str pa_nil)))) (pss_one (ps_ost (pv 0) (pv 1))), ?_⟩
    refine ⟨_, rfl, a, C, _, rfl, hO, hw, ha, fun dx n ne => ?_⟩
    refine ⟨_, rfl, _, rfl, a, C, rfl, hO, hf, .inr ⟨dx, _, upd_same, by rw [upd_ne ne, upd_same], by show 1 ≤ 900; decide, q dx _ n ne (fun b h1 h2 => ?_) ?_ ?_⟩⟩
    · rw [upd_ne h1, upd_ne h2, upd_ne h1]
    · rw [upd_ne (Ne.symm ne), upd_same]
    · rw [upd_same]
def sp2 (K : PySem.W.Frag) : Sp := fun vs H Q _ => ∃ a C v u, vs = [.ref a, v, u] ∧ OexC K C ∧ PySem.W.findIn K (.ref C) "word" = some none ∧ PySem.W.findIn K (.ref C) "one" = some none ∧ PySem.W.findIn K (.ref C) "other" = some none ∧ H a = some (exo a C none) ∧
  ∀ dx H', H dx = none → dx ≠ a → (∀ b, b ≠ dx → b ≠ a → H' b = H b) → H' a = some (exo a C (some dx)) → H' dx = some (exd dx [("other", u), ("one", v), ("word", .str "alike")]) → Q .non H'
theorem ok_AL {CH fH f : Addr} {fd fdH : FuncData} {k : Nat} (T : HE K mg CH fH fdH) (F : Fun K "__init__" "Alike.__init__" sALinit f fd) : FnOk P w K mg base CX0 (k + 2) f fd ["self", "one", "other"] (sp2 K) := by
  have GH : FnOk P w K mg base CX0 (k + 1) fH fdH ["self", "word"] (spHE K) := ok_HE T
  obtain ⟨mc, rd, fc⟩ := T.rd
  refine F.ok scAL (fun vs H Q E h => ?_) (fun cdv A outer s H vs Q E hr h => ?_)
  · obtain ⟨a, C, v, u, rfl, _⟩ := h
    rfl
  · obtain ⟨a, C, v, u, rfl, hO, hw, h1, h2, ha, q⟩ := h
    refine ⟨_, pss_cons (ps_expr (pe_clsfn (by rfl) T.gC rd fc GH hr T.F.kp T.b .nil pass0 (pa_cons (pv 0) (pa_cons pe_str pa_nil)))) (pss_cons (ps_ost (pv 0) (pv 1)) (pss_one (ps_ost (pv 0) (pv 2)))), ?_⟩
    refine ⟨_, rfl, a, C, _, rfl, hO, hw, ha, fun dx n ne => ?_⟩
    refine ⟨_, rfl, _, rfl, a, C, rfl, hO, h1, .inr ⟨dx, _, upd_same, by rw [upd_ne ne, upd_same], by show 1 ≤ 900; decide, ?_⟩⟩
    refine ⟨_, rfl, _, rfl, a, C, rfl, hO, h2, .inr ⟨dx, _, by rw [upd_ne (Ne.symm ne), upd_same], upd_same, by show 2 ≤ 900; decide, q dx _ n ne (fun b g1 g2 => ?_) ?_ ?_⟩⟩
    · rw [upd_ne g1, upd_ne g1, upd_ne g2, upd_ne g1]
    · rw [upd_ne (Ne.symm ne), upd_ne (Ne.symm ne), upd_same]
    · rw [upd_same]
end
end NC
namespace NC
open PySem PySem.Spec PyProof.Rows L2
def badAt (l : List Nat) (bs : List (List Nat)) (i : Nat) : Bool := !isBar l (bs.getD i []) || decide (bs.getD i [] ∈ bs.take i)
def firstBad (l : List Nat) (bs : List (List Nat)) : Option Nat := (List.range bs.length).find? (badAt l bs)
theorem first_at {l : List Nat} {bs : List (List Nat)} {i : Nat} {b : List Nat} (h : bs[i]? = some b) (ok : ∀ j, j < i → badAt l bs j = false) (hb : badAt l bs i = true) : firstBad l bs = some i := by
  have hi : i < bs.length := (List.getElem?_eq_some_iff.mp h).1
  unfold firstBad
  refine List.find?_eq_some_iff_getElem.mpr ⟨hb, i, by simpa using hi, by simp, fun j hj => ?_⟩
  rw [List.getElem_range, ok j hj]
  rfl
theorem walk_enumT {K : PySem.W.Frag} {a : Addr} {xs : List V} : Walk (ItET K a) xs.length (fun H => SqT K H a xs) (YPair (fun i => some (.int (i : Nat))) (fun i => xs[i]?)) where
  goes := fun i _ lt sq => ⟨xs, xs[i], sq, List.getElem?_eq_getElem lt⟩
  stops := fun _ sq => ⟨xs, sq, Nat.le_refl _⟩
  yields := fun i _ _ _ _ sq ⟨T, x, e1, e2, e3, e4⟩ => ⟨T, .int (i : Nat), x, e1, e2, e3, rfl, e4 xs sq⟩
theorem cut_to (bs : List (List Nat)) (i : Nat) (h : i ≤ bs.length) : cutV ((bs.map tx).map V.str) none (some ((i : Nat) : Int)) = ((bs.take i).map tx).map V.str := by
  unfold cutV
  rw [HT.sIx_none, HT.sIx_nat, List.drop_zero, Nat.sub_zero, List.length_map, List.length_map, Nat.min_eq_left h, List.map_take, List.map_take]
/-- an own refusal's class, at C, its __init__ at fI -/
structure XC (K : PySem.W.Frag) (mg : Str → Option Value) (x q : Str) (st : Stmt) (fld : Str) (C fI : Addr) (fd : FuncData) : Prop where
  gC : mg x = some (.ref C)
  O : OexC K C
  hw : PySem.W.findIn K (.ref C) "word" = some none
  hf : PySem.W.findIn K (.ref C) fld = some none
  iC : PySem.W.findIn K (.ref C) "__init__" = some (some (.ref fI))
  tI : PySem.W.typeIn K (.ref fI) = some (.type "function")
  F : Fun K "__init__" q st fI fd
  b : Binds K fd ["self", fld] []
theorem mk1 {K : PySem.W.Frag} {C : Addr} {fld word : Str} (hO : OexC K C) (hw : PySem.W.findIn K (.ref C) "word" = some none) (hf : PySem.W.findIn K (.ref C) fld = some none) {H1 : Hp} {v : V} {Q : XK}
    (q : ∀ d H', Same H1 H' → H1 d = none → H' d = some (.xd [(fld, v), ("word", .str word)]) → Q (.ref C) (some d) H') :
    ∀ a, H1 a = none → sp1 K fld word (.ref a :: ([v] ++ [])) (upd H1 a (exo a C none))
      (fun u H2 => u = .non ∧ ∃ (d : Addr) (fs : List (Str × V)), H2 a = some (exo a C (some d)) ∧ H2 d = some (exd d fs) ∧ H1 d = none ∧ Q (.ref C) (some d) (upd (del H2 a) d (.xd fs))) (fun _ _ _ => False) := by
  intro a na
  refine ⟨a, C, v, rfl, hO, hw, hf, upd_same, fun dx H' n1 n2 k e1 e2 => ⟨rfl, dx, _, e1, e2, ?_, q dx _ (fun b o hb => ?_) ?_ upd_same⟩⟩
  · rw [upd_ne n2] at n1
    exact n1
  · have hd : H1 dx = none := by
      rw [upd_ne n2] at n1
      exact n1
    have b1 : b ≠ dx := ne_of_none hb hd
    have b2 : b ≠ a := ne_of_none hb na
    rw [upd_ne b1, del_ne b2, k b b1 b2, upd_ne b2]
    exact hb
  · rw [upd_ne n2] at n1
    exact n1
theorem scChkBars : FnScope ["walls", "bars", "at", "bar"] ["walls", "bars"] (defScope sChkBars) := ⟨rfl, rfl, rfl, by decide +kernel, rfl, by decide +kernel, by decide +kernel⟩
section
variable {P : Program} {w : World} {K : PySem.W.Frag} {mg : Str → Option Value} {base : Heap}
def BarsOk (bs : List (List Nat)) : Prop := ∀ b ∈ bs, (∀ c ∈ b, c < 128) ∧ b.length ≤ 100
def spChkBars (K : PySem.W.Frag) (CB : Addr) : Sp := fun vs H Q E => ∃ l a bs, vs = [.str (tx l), .ref a] ∧ GoodW l ∧ BarsOk bs ∧ bs.length ≤ 100 ∧ (SqL K H a ((bs.map tx).map V.str) ∨ SqT K H a ((bs.map tx).map V.str)) ∧
  match firstBad l bs with
  | none => ∀ H', Same H H' → Q .non H'
  | some i => ∀ H' d, Same H H' → H d = none → H' d = some (.xd [("at", .int (i : Nat)), ("word", .str "badbar")]) → E (.ref CB) (some d) H'
set_option maxHeartbeats 1000000 in
theorem ok_chkBars {f fI CB fB CH fH fS : Addr} {fd fdI fdB fdH fdS : FuncData} {k : Nat} (B : BM mg) (F : Fun K "check_bars" "check_bars" sChkBars f fd) (I : DF K mg "is_bar" sIsBar ["walls", "bar"] fI fdI) (S : DF K mg "sides_of" sSides ["walls"] fS fdS)
    (T : HE K mg CH fH fdH) (X : XC K mg "BadBar" "BadBar.__init__" sBBinit "at" CB fB fdB) : FnOk P w K mg base (L2.CX P w) (k + 4) f fd ["walls", "bars"] (spChkBars K CB) := by
  have GI : FnOk P w K mg base CX0 (k + 2) fI fdI ["walls", "bar"] spIsBar := ok_isBar B I.F S
  have GB : FnOk P w K mg base CX0 (k + 2) fB fdB ["self", "at"] (sp1 K "at" "badbar") := ok_BB T X.F
  refine F.okX scChkBars (fun vs H Q E h => ?_) (fun cdv A outer s H vs Q E hr h => ?_)
  · obtain ⟨l, a, bs, rfl, _⟩ := h
    rfl
  · obtain ⟨l, a, bs, rfl, g, hbs, hbl, hS, q⟩ := h
    refine ⟨_, pss_one (ps_for (passes_of rfl) rfl (pi_enumT (by rfl) B.enumerate (pa_cons (pv 1) pa_nil))
        (pg_tup rfl (pgs_cons (pg_name (i := 2) scChkBars.nd rfl (.inl rfl)) (pgs_cons (pg_name (i := 3) scChkBars.nd rfl (.inl rfl)) pgs_nil)))
      (pss_one (ps_if (PW.pt (pw_or (pt_not (pt_val (pe_call GI (hr.mono (by omega)) rfl I.g I.F.kp I.b .nil pass0 (pa_cons (pv 0) (pa_cons (pv 3) pa_nil)))))
          (pw_or1 (pt_cmpR op_in_seq (pv 3) (pe_slice (SlR.or sl_list sl_tup) (pv 1) po_none (po_some (pv 2))) (by rfl)))))
        (pss_one (ps_raise rfl (takes_of rfl rfl rfl rfl) (pmk_oex X.O X.iC X.tI GB hr X.b .nil pass0 (by rfl) X.gC (pa_cons (pv 2) pa_nil)))) pss_nil))), ?_⟩
    refine ⟨_, rfl, a, rfl, ?_⟩
    have len : ((bs.map tx).map V.str).length = bs.length := by rw [List.length_map, List.length_map]
    rcases hS with hS | hS
    · have wk := walk_enum (K := K) (a := a) (xs := (bs.map tx).map V.str)
      rw [len] at wk
      refine .inl ⟨⟨_, hS⟩, for_it wk (fun i σ H' => ∃ y2 y3, σ = [some (.str (tx l)), some (.ref a), y2, y3] ∧ (∀ j, j < i → badAt l bs j = false) ∧ Same H H')
        ⟨_, _, rfl, fun _ h => absurd h (Nat.not_lt_zero _), L2.Same.refl _⟩ (fun i σ H' _ p => by obtain ⟨_, _, _, _, sm⟩ := p; exact sm_l sm hS) ?_ ?_⟩
      · rintro i x σ H1 H2 hi ⟨y2, y3, rfl, hok, sm⟩ ⟨T, x1, x2, rfl, nT, rfl, e1, e2⟩
        obtain rfl : V.int (i : Nat) = x1 := Option.some.inj e1
        have e2 : ((bs.map tx).map V.str)[i]? = some x2 := e2
        rw [List.getElem?_map, List.getElem?_map] at e2
        obtain ⟨z, hz, e3⟩ := Option.map_eq_some_iff.mp e2
        obtain ⟨b, hbi, rfl⟩ := Option.map_eq_some_iff.mp hz
        subst e3
        have hb : b ∈ bs := List.mem_of_getElem? hbi
        have sT : Same H (upd H1 T (.tup [.int (i : Nat), .str (tx b)])) := sm_upd sm nT
        refine ⟨T, _, rfl, SqT.of upd_same, rfl, _, _, rfl, _, _, rfl, rfl, ?_⟩
        refine ⟨_, rfl, _, rfl, l, b, rfl, g.asc, by have := g.hi; omega, (hbs b hb).1, (hbs b hb).2, fun H3 s3 => ⟨_, rfl, ite2 (fun t1 => ?_) (fun t1 => ?_)⟩⟩
        · -- no bar
          have hn : isBar l b = false := by simpa using t1
          have fb : firstBad l bs = some i := first_at hbi hok (by unfold badAt; rw [List.getD_eq_getElem?_getD, hbi]; simp [hn])
          rw [fb] at q
          refine iteT ⟨_, rfl, by show 1 ≤ 1000; decide, mk1 X.O X.hw X.hf fun d H4 s4 n4 e4 => ?_⟩
          exact q H4 d (sm_trans (sm_trans sT s3) s4) (L2.Same.free (sm_trans sT s3) n4) e4
        · have hy : isBar l b = true := by simpa using t1
          have hS3 := sm_l (sm_trans sT s3) hS
          refine ⟨_, rfl, _, rfl, _, rfl, _, rfl, .inl ⟨a, _, rfl, hS3, fun p np => ?_⟩⟩
          rw [cut_to bs i (Nat.le_of_lt hi)]
          refine ⟨p, _, rfl, .inl (SqL.of upd_same), rfl, flat_str _, _, rfl, ite2 (fun t2 => ?_) (fun t2 => ?_)⟩
          · have hm : b ∈ bs.take i := by
              have t3 : inV (.str (tx b)) (((bs.take i).map tx).map V.str) = true := t2
              rw [inV_str] at t3
              obtain ⟨c, hc, e⟩ := List.mem_map.mp (of_decide_eq_true t3)
              rw [← tx_inj e]
              exact hc
            have fb : firstBad l bs = some i := first_at hbi hok (by unfold badAt; rw [List.getD_eq_getElem?_getD, hbi]; simp [hm])
            rw [fb] at q
            refine ⟨_, rfl, by show 1 ≤ 1000; decide, mk1 X.O X.hw X.hf fun d H4 s4 n4 e4 => ?_⟩
            have s5 := sm_upd (o := .lst (((bs.take i).map tx).map V.str)) (sm_trans sT s3) np
            exact q H4 d (sm_trans s5 s4) (L2.Same.free s5 n4) e4
          · refine ⟨_, _, rfl, fun j hj => ?_, sm_upd (sm_trans sT s3) np⟩
            rcases Nat.lt_or_ge j i with h | h
            · exact hok j h
            · obtain rfl : j = i := by omega
              have hm : b ∉ bs.take j := fun z => by
                have t3 : ¬ inV (.str (tx b)) (((bs.take j).map tx).map V.str) = true := t2
                rw [inV_str] at t3
                exact t3 (decide_eq_true (List.mem_map.mpr ⟨b, z, rfl⟩))
              unfold badAt
              rw [List.getD_eq_getElem?_getD, hbi]
              simp [hy, hm]
      · rintro σ H1 ⟨y2, y3, rfl, hok, sm⟩
        have fb : firstBad l bs = none := List.find?_eq_none.mpr fun j hj => by
          rw [hok j (by simpa using hj)]
          decide
        rw [fb] at q
        exact q H1 sm
    · have wk := walk_enumT (K := K) (a := a) (xs := (bs.map tx).map V.str)
      rw [len] at wk
      refine .inr ⟨⟨_, hS⟩, for_it wk (fun i σ H' => ∃ y2 y3, σ = [some (.str (tx l)), some (.ref a), y2, y3] ∧ (∀ j, j < i → badAt l bs j = false) ∧ Same H H')
        ⟨_, _, rfl, fun _ h => absurd h (Nat.not_lt_zero _), L2.Same.refl _⟩ (fun i σ H' _ p => by obtain ⟨_, _, _, _, sm⟩ := p; exact sm_t sm hS) ?_ ?_⟩
      · rintro i x σ H1 H2 hi ⟨y2, y3, rfl, hok, sm⟩ ⟨T, x1, x2, rfl, nT, rfl, e1, e2⟩
        obtain rfl : V.int (i : Nat) = x1 := Option.some.inj e1
        have e2 : ((bs.map tx).map V.str)[i]? = some x2 := e2
        rw [List.getElem?_map, List.getElem?_map] at e2
        obtain ⟨z, hz, e3⟩ := Option.map_eq_some_iff.mp e2
        obtain ⟨b, hbi, rfl⟩ := Option.map_eq_some_iff.mp hz
        subst e3
        have hb : b ∈ bs := List.mem_of_getElem? hbi
        have sT : Same H (upd H1 T (.tup [.int (i : Nat), .str (tx b)])) := sm_upd sm nT
        refine ⟨T, _, rfl, SqT.of upd_same, rfl, _, _, rfl, _, _, rfl, rfl, ?_⟩
        refine ⟨_, rfl, _, rfl, l, b, rfl, g.asc, by have := g.hi; omega, (hbs b hb).1, (hbs b hb).2, fun H3 s3 => ⟨_, rfl, ite2 (fun t1 => ?_) (fun t1 => ?_)⟩⟩
        · -- no bar
          have hn : isBar l b = false := by simpa using t1
          have fb : firstBad l bs = some i := first_at hbi hok (by unfold badAt; rw [List.getD_eq_getElem?_getD, hbi]; simp [hn])
          rw [fb] at q
          refine iteT ⟨_, rfl, by show 1 ≤ 1000; decide, mk1 X.O X.hw X.hf fun d H4 s4 n4 e4 => ?_⟩
          exact q H4 d (sm_trans (sm_trans sT s3) s4) (L2.Same.free (sm_trans sT s3) n4) e4
        · have hy : isBar l b = true := by simpa using t1
          have hS3 := sm_t (sm_trans sT s3) hS
          refine ⟨_, rfl, _, rfl, _, rfl, _, rfl, .inr ⟨a, _, rfl, hS3, fun z => absurd z.2 (by rw [len, HT.sIx_nat]; omega), fun p np => ?_⟩⟩
          rw [cut_to bs i (Nat.le_of_lt hi)]
          refine ⟨p, _, rfl, .inr (SqT.of upd_same), rfl, flat_str _, _, rfl, ite2 (fun t2 => ?_) (fun t2 => ?_)⟩
          · have hm : b ∈ bs.take i := by
              have t3 : inV (.str (tx b)) (((bs.take i).map tx).map V.str) = true := t2
              rw [inV_str] at t3
              obtain ⟨c, hc, e⟩ := List.mem_map.mp (of_decide_eq_true t3)
              rw [← tx_inj e]
              exact hc
            have fb : firstBad l bs = some i := first_at hbi hok (by unfold badAt; rw [List.getD_eq_getElem?_getD, hbi]; simp [hm])
            rw [fb] at q
            refine ⟨_, rfl, by show 1 ≤ 1000; decide, mk1 X.O X.hw X.hf fun d H4 s4 n4 e4 => ?_⟩
            have s5 := sm_upd (o := .tup (((bs.take i).map tx).map V.str)) (sm_trans sT s3) np
            exact q H4 d (sm_trans s5 s4) (L2.Same.free s5 n4) e4
          · refine ⟨_, _, rfl, fun j hj => ?_, sm_upd (sm_trans sT s3) np⟩
            rcases Nat.lt_or_ge j i with h | h
            · exact hok j h
            · obtain rfl : j = i := by omega
              have hm : b ∉ bs.take j := fun z => by
                have t3 : ¬ inV (.str (tx b)) (((bs.take j).map tx).map V.str) = true := t2
                rw [inV_str] at t3
                exact t3 (decide_eq_true (List.mem_map.mpr ⟨b, z, rfl⟩))
              unfold badAt
              rw [List.getD_eq_getElem?_getD, hbi]
              simp [hy, hm]
      · rintro σ H1 ⟨y2, y3, rfl, hok, sm⟩
        have fb : firstBad l bs = none := List.find?_eq_none.mpr fun j hj => by
          rw [hok j (by simpa using hj)]
          decide
        rw [fb] at q
        exact q H1 sm
end
end NC
namespace NC
open PySem PySem.Spec PyProof.Rows L2
section
variable {X : Cx}
/-- y = {k: v for ..}, y a plain local: what the comprehension hands on is stored in y's slot -/
theorem ps_setDc {i : Nat} {y : Str} {py : Pos} {kx vx tg iter : Expr} {ifs : List Expr} {scope : Scope} {own : List (Str × Nat)} {pos spos : Pos} {wi : TI} {g : TG} {tt : TT} {tk tv : TE} (calm : X.calm = true) (nd : X.N.Nodup) (at_ : X.N[i]? = some y)
    (loc : X.env.scope.names.lookup y = some .local) (sw : swapsWith (.DictComp kx vx [⟨tg, iter, ifs, 0⟩] scope pos) (some (.Name y py)) spos.line X.env = pure true) (it : PI X tg iter wi) (blk : BlkOk X.N X.env.scope scope own)
    (pg : ∀ (s : Shared) (H : Hp) (C : Addr) (cl : List (Str × Addr)) (fp : List Addr), PG (X.blk s H scope (compEnvC scope cl C X.env) fp) tg g)
    (pt : ∀ (s : Shared) (H : Hp) (C : Addr) (cl : List (Str × Addr)) (fp : List Addr), PTs (X.blk s H scope (compEnvC scope cl C X.env) fp) ifs tt)
    (pk : ∀ (s : Shared) (H : Hp) (C : Addr) (cl : List (Str × Addr)) (fp : List Addr), PE (X.blk s H scope (compEnvC scope cl C X.env) fp) kx tk)
    (pw : ∀ (s : Shared) (H : Hp) (C : Addr) (cl : List (Str × Addr)) (fp : List Addr), PE (X.blk s H scope (compEnvC scope cl C X.env) fp) vx tv) (fo : ∀ x, foldedSetIterable iter X.env x = pure x := by intro _; rfl) :
    PS X (.Assign [.Name y py] (.DictComp kx vx [⟨tg, iter, ifs, 0⟩] scope pos) spos) (tAsg (tDc wi g tt tk tv (own.map (·.2))) (gName i)) := ⟨fun ps t σ H D I w => by
  have made : wpAny (model X.prog X.w) X.A (comprehension (.DictComp kx vx [⟨tg, iter, ifs, 0⟩] scope pos) scope X.env (firstIterPos [⟨tg, iter, ifs, 0⟩] pos) newDict false (eval iter X.env) (some (assign (.Name y py) X.env))) (fun _ v => SP X ps D .next v) X.xe t := by
    refine dc_core (Qf := fun _ v => SP X ps D .next v) calm nd I it blk pg pt pk pw fo (show tDc wi g tt tk tv (own.map (·.2)) σ H (fun x G => gName i x σ G D.nx) from w) fun L C v m G J q cells fr => ?_
    show wpAny (model X.prog X.w) X.A (assign (.Name y py) X.env (.ref L)) _ X.xe v
    refine wpAny_assign_Name (store_ok2 (v := V.ref L) J nd at_ (.inl loc) rfl (fun v2 J2 st => ?_) (.inr loc))
    obtain ⟨b, same, eb⟩ := st
    have apart : C ≠ b := eb.elim (fun z => z ▸ fr.2.1) (fun z z2 => fr.2.2.2.2.1 y b z z2.symm)
    exact ⟨m, cells.sameBut same apart, fun _ keep => ⟨_, G, J2.turned (t' := v2.toks) (fun c o hc e => (keep.2 c hc).trans e) fr.1 fr.2.1 fr.2.2.2.1 fr.2.2.2.2.1 fr.2.2.2.2.2, q⟩⟩
  rw [exec_Assign_Name_used _ _ _ _ sw]
  exact wpAny_bind (wpAny_standAt (wpAny_bind (wpAny_bind (thn made fun _ v r => wpAny_pure (wpAny_pure r)))))⟩
/-- such an assignment swaps where the name is a local of a function and none of the comprehension's own -/
theorem sw_dict {kx vx : Expr} {gs : List Comprehension} {scope : Scope} {pos py : Pos} {y : Str} {l : Nat} {env : Env} (fn : env.scope.kind = .function) (loc : env.scope.names.lookup y = some .local) (row : (py.line == pos.line) = true)
    (out : (scope.names.any fun (n, k) => n == y && (k == .local || k == .cell)) = false) : swapsWith (.DictComp kx vx gs scope pos) (some (.Name y py)) l env = pure true := by
  have k1 : env.blockKind = .function := by
    unfold Env.blockKind
    rw [fn]
    rfl
  unfold swapsWith
  simp only [k1, show env.kindOf y = some .local from loc, out, Expr.pos, row]
  rfl
/-- for x in a name that holds a list or a tuple -/
def iSeq (K : PySem.W.Frag) (tl : TE) : TI := fun σ H R => tl σ H fun x H1 => ∃ a, x = .ref a ∧ ((∃ xs, SqL K H1 a xs) ∧ R (Itl K a) H1 ∨ (∃ xs, SqT K H1 a xs) ∧ R (Itt K a) H1)
theorem pi_seq {tg l : Expr} {i : Nat} (at_ : PE X l (tVar i)) : PI X tg l (iSeq X.K (tVar i)) := ⟨fun ps s σ H R I ⟨v, sv, a, ev, k⟩ => k.elim
  (fun k => (pi_list (tg := tg) at_).run ps s σ H R I ⟨v, sv, a, ev, k⟩) (fun k => (pi_tup (tg := tg) at_).run ps s σ H R I ⟨v, sv, a, ev, k⟩)⟩
end
end NC
namespace NC
open PySem PySem.Spec PyProof.Rows L2
abbrev sStraight : Stmt := topS 28
theorem scStraight : FnScope ["walls", "bars", "straight", "bar", "side"] ["walls", "bars"] (defScope sStraight) := ⟨rfl, rfl, rfl, by decide +kernel, rfl, by decide +kernel, by decide +kernel⟩
def con (s : Nat) (b : List Nat) : List Nat := match b with
  | [x, y] => (if x = s then [swp y] else []) ++ (if y = s then [swp x] else [])
  | _ => []
def adjOf (bs : List (List Nat)) (s : Nat) : List Nat := bs.flatMap (con s)
theorem con_len (s : Nat) (b : List Nat) : (con s b).length ≤ 2 := by
  unfold con
  split
  · rw [List.length_append]
    split <;> split <;> simp
  · simp
theorem adj_len (bs : List (List Nat)) (s : Nat) : (adjOf bs s).length ≤ 2 * bs.length := by
  induction bs with
  | nil => simp [adjOf]
  | cons b r ih =>
    have e : adjOf (b :: r) s = con s b ++ adjOf r s := by simp [adjOf]
    rw [e, List.length_append, List.length_cons]
    have := con_len s b
    omega
theorem bar_two {l b : List Nat} (h : isBar l b = true) : ∃ x y, b = [x, y] ∧ x ∈ sds l ∧ y ∈ sds l ∧ lwc x < lwc y := by
  match b, h with
  | [x, y], h =>
    have h' : (decide (x ∈ sds l) && (decide (y ∈ sds l) && decide (lwc x < lwc y))) = true := h
    rw [Bool.and_eq_true, Bool.and_eq_true] at h'
    exact ⟨x, y, rfl, of_decide_eq_true h'.1, of_decide_eq_true h'.2.1, of_decide_eq_true h'.2.2⟩
theorem adj_mem {l : List Nat} (g : GoodW l) {bs : List (List Nat)} (hb : ∀ b ∈ bs, isBar l b = true) {s c : Nat} (h : c ∈ adjOf bs s) : c ∈ sds l := by
  obtain ⟨b, hb1, hc⟩ := List.mem_flatMap.mp h
  obtain ⟨x, y, rfl, hx, hy, _⟩ := bar_two (hb b hb1)
  have hc : c ∈ (if x = s then [swp y] else []) ++ (if y = s then [swp x] else []) := hc
  rcases List.mem_append.mp hc with q | q
  · split at q
    · rw [List.mem_singleton.mp q]; exact sds_swp g hy
    · cases q
  · split at q
    · rw [List.mem_singleton.mp q]; exact sds_swp g hx
    · cases q
theorem adj_snoc (bs : List (List Nat)) (i s : Nat) (b : List Nat) (h : bs[i]? = some b) : adjOf (bs.take (i + 1)) s = adjOf (bs.take i) s ++ con s b := by
  rw [List.take_add_one, h]
  unfold adjOf
  rw [List.flatMap_append]
  simp
def stK (L : List Nat) (ad : Nat → Addr) : List (Key × V) := L.map fun s => (Sum.inr (sg s), V.ref (ad s))
theorem stK_val {L : List Nat} {ad : Nat → Addr} {s : Nat} (h : s ∈ L) : valV (stK L ad) (Sum.inr (sg s)) = some (.ref (ad s)) := by
  induction L with
  | nil => cases h
  | cons t r ih =>
    by_cases e : t = s
    · subst e
      exact valV_pos (p := (Sum.inr (sg t), V.ref (ad t))) rfl
    · have h2 : s ∈ r := by
        rcases List.mem_cons.mp h with z | z
        · exact absurd z.symm e
        · exact z
      exact (valV_neg (p := (Sum.inr (sg t), V.ref (ad t))) (fun z => e (sg_inj (Sum.inr.inj z)))).trans (ih h2)
theorem stK_no {L : List Nat} {ad : Nat → Addr} {s : Nat} (h : s ∉ L) : valV (stK L ad) (Sum.inr (sg s)) = none := by
  induction L with
  | nil => rfl
  | cons t r ih =>
    have e : ¬ t = s := fun z => h (by rw [z]; exact List.mem_cons_self ..)
    exact (valV_neg (p := (Sum.inr (sg t), V.ref (ad t))) (fun z => e (sg_inj (Sum.inr.inj z)))).trans (ih fun z => h (List.mem_cons_of_mem _ z))
/-- the dict of lists of what is forced straight -/
structure SD8 (H : Hp) (L : List Nat) (d : Addr) (ad : Nat → Addr) (adj : Nat → List Nat) : Prop where
  dk : H d = some (.dK (stK L ad))
  at_ : ∀ s ∈ L, H (ad s) = some (.lst (((adj s).map sg).map V.str))
  inj : ∀ s ∈ L, ∀ t ∈ L, ad s = ad t → s = t
theorem SD8.nd {H : Hp} {L : List Nat} {d : Addr} {ad : Nat → Addr} {adj : Nat → List Nat} (S : SD8 H L d ad adj) {s : Nat} (h : s ∈ L) : ad s ≠ d := ne_of (S.at_ s h) S.dk fun z => by cases z
theorem SD8.get {H : Hp} {L : List Nat} {d : Addr} {ad : Nat → Addr} {adj : Nat → List Nat} (S : SD8 H L d ad adj) {s : Nat} (h : s ∈ L) : DGet H d (.str (sg s)) (some (.ref (ad s))) := by
  rw [← stK_val (ad := ad) h]
  exact DGet.k (k := Sum.inr (sg s)) S.dk
theorem SD8.app {H : Hp} {L : List Nat} {d : Addr} {ad : Nat → Addr} {adj : Nat → List Nat} (S : SD8 H L d ad adj) {s c : Nat} (h : s ∈ L) :
    SD8 (upd H (ad s) (.lst (((adj s).map sg).map V.str ++ [.str (sg c)]))) L d ad (fun t => if t = s then adj t ++ [c] else adj t) := by
  refine ⟨by rw [upd_ne (Ne.symm (S.nd h))]; exact S.dk, fun t ht => ?_, S.inj⟩
  by_cases e : t = s
  · subst e
    rw [upd_same, if_pos rfl, List.map_append, List.map_append]
    rfl
  · rw [upd_ne (fun z => e (S.inj t ht s h z)), if_neg e]
    exact S.at_ t ht
section
variable {P : Program} {w : World} {K : PySem.W.Frag} {mg : Str → Option Value} {base : Heap}
def spStraight (K : PySem.W.Frag) : Sp := fun vs H Q _ => ∃ l a bs, vs = [.str (tx l), .ref a] ∧ GoodW l ∧ (∀ b ∈ bs, isBar l b = true) ∧ bs.length ≤ 100 ∧ (SqL K H a ((bs.map tx).map V.str) ∨ SqT K H a ((bs.map tx).map V.str)) ∧
  ∀ H' d ad, Same H H' → H d = none → SD8 H' (sds l) d ad (adjOf bs) → Q (.ref d) H'
set_option maxHeartbeats 1000000 in
theorem ok_straight {f fS fO : Addr} {fd fdS fdO : FuncData} {k : Nat} (B : BM mg) (F : Fun K "straight_from" "straight_from" sStraight f fd) (S : DF K mg "sides_of" sSides ["walls"] fS fdS) (O : DF K mg "other" sOther ["side"] fO fdO) :
    FnOk P w K mg base CX0 (k + 2) f fd ["walls", "bars"] (spStraight K) := by
  have GS : FnOk P w K mg base CX0 (k + 1) fS fdS ["walls"] spSides := ok_sides B S.F
  have GO : FnOk P w K mg base CX0 (k + 1) fO fdO ["side"] spOther := ok_other O.F
  refine F.ok scStraight (fun vs H Q E h => ?_) (fun cdv A outer s H vs Q E hr h => ?_)
  · obtain ⟨l, a, bs, rfl, _⟩ := h
    rfl
  · obtain ⟨l, a, bs, rfl, g, hbar, hbl, hS, q⟩ := h
    refine ⟨_, pss_cons (ps_setDc (i := 2) (own := [("side", 4)]) (g := gName 4) (tt := tYes) rfl scStraight.nd rfl rfl (sw_dict rfl rfl rfl (by decide +kernel)) (pi_list (pe_call GS hr rfl S.g S.F.kp S.b .nil pass0 (pa_cons (pv 0) pa_nil)))
        (blkOk_by (N := ["walls", "bars", "straight", "bar", "side"]) (sc := defScope sStraight) (by decide +kernel)) (fun _ _ _ _ _ => pg_name (i := 4) scStraight.nd rfl (Or.inl rfl)) (fun _ _ _ _ _ => pts_nil) (fun _ _ _ _ _ => pv 4) (fun _ _ _ _ _ => pe_lst pa_nil))
      (pss_cons (ps_for PassesOwn.never rfl (pi_seq (pv 1)) (pg_name (i := 3) scStraight.nd rfl (Or.inl rfl))
        (pss_cons (ps_expr (pe_bm PySem.F.plainAttrs_list PySem.F.slot_list_append PySem.F.type_list_append mt_append (pe_dget (hu_of hr) (pv 2) (pe_ix ix_str (pv 3) pe_int (fun _ _ => rfl)) (fun _ _ => rfl))
            (pa_cons (pe_call GO hr rfl O.g O.F.kp O.b .nil pass0 (pa_cons (pe_ix ix_str (pv 3) pe_int (fun _ _ => rfl)) pa_nil)) pa_nil)))
          (pss_one (ps_expr (pe_bm PySem.F.plainAttrs_list PySem.F.slot_list_append PySem.F.type_list_append mt_append (pe_dget (hu_of hr) (pv 2) (pe_ix ix_str (pv 3) pe_int (fun _ _ => rfl)) (fun _ _ => rfl))
            (pa_cons (pe_call GO hr rfl O.g O.F.kp O.b .nil pass0 (pa_cons (pe_ix ix_str (pv 3) pe_int (fun _ _ => rfl)) pa_nil)) pa_nil))))))
      (pss_one (ps_ret (pv 2)))), ?_⟩
    refine ⟨_, rfl, l, rfl, g.asc, by have := g.hi; omega, fun p np => ⟨p, rfl, ⟨_, SqL.of upd_same⟩, fun D nD => ?_⟩⟩
    have s1 : Same H (upd H p (.lst (((sds l).map sg).map V.str))) := same_upd np
    have hp1 : (upd H p (.lst (((sds l).map sg).map V.str))) p = some (.lst (((sds l).map sg).map V.str)) := upd_same
    generalize (upd H p (.lst (((sds l).map sg).map V.str))) = H1 at s1 nD hp1 ⊢
    have wk := walk_list (K := K) (a := p) (xs := ((sds l).map sg).map V.str)
    rw [List.length_map, List.length_map] at wk
    refine dc_it wk (fun i H' => ∃ ad, Same H1 H' ∧ SD8 H' ((sds l).take i) D ad (fun _ => []) ∧ ∀ s ∈ (sds l).take i, H1 (ad s) = none)
      ⟨fun _ => p, same_upd nD, ⟨upd_same, fun s hs => by simp at hs, fun s hs => by simp at hs⟩, fun s hs => by simp at hs⟩ (fun i H' _ h => by obtain ⟨ad, sm, _⟩ := h; exact SqL.of (sm _ _ hp1)) ?_ ?_
    · rintro i x H2 H3 hi ⟨ad, sm, S8, fr0⟩ ⟨rfl, hx⟩
      rw [List.getElem?_map, List.getElem?_map] at hx
      obtain ⟨z, hz, rfl⟩ := Option.map_eq_some_iff.mp hx
      obtain ⟨c, hc, rfl⟩ := Option.map_eq_some_iff.mp hz
      have hnc : c ∉ (sds l).take i := fun hm => by
        obtain ⟨j, hj⟩ := List.getElem?_of_mem hm
        have hji : j < i := by
          have := (List.getElem?_eq_some_iff.mp hj).1
          rw [List.length_take] at this
          omega
        rw [List.getElem?_take_of_lt hji] at hj
        exact absurd ((List.getElem?_inj (List.getElem?_eq_some_iff.mp hj).1 (sds_nd g)).mp (hj.trans hc.symm)) (Nat.ne_of_lt hji)
      refine ⟨rfl, yes_i ⟨_, rfl, Nat.zero_le _, fun r nr => ⟨stK ((sds l).take i) ad, Sum.inr (sg c), rfl, ?_, ?_, fun t => if t = c then r else ad t, ?_, ?_, ?_⟩⟩⟩
      · rw [upd_ne (ne_of_none S8.dk nr)]
        exact S8.dk
      · unfold stK
        rw [List.length_map, List.length_take, sizeLine_eq]
        have := sds_len g
        omega
      · exact sm_over (sm_upd sm nr) nD
      · have nrD : D ≠ r := ne_of_none S8.dk nr
        have e1 : ∀ t ∈ (sds l).take i, (if t = c then r else ad t) = ad t := fun t ht => if_neg fun e => hnc (by rw [← e]; exact ht)
        have tk : (sds l).take (i + 1) = (sds l).take i ++ [c] := by rw [List.take_add_one, hc]; rfl
        refine ⟨?_, fun t ht => ?_, fun t ht u hu e => ?_⟩
        · rw [upd_same, putK_new _ (stK_no hnc), tk]
          unfold stK
          rw [List.map_append]
          rw [List.map_congr_left (g := fun s => (Sum.inr (sg s), V.ref (if s = c then r else ad s))) fun t ht => by rw [e1 t ht]]
          simp
        · rw [tk] at ht
          rcases List.mem_append.mp ht with h | h
          · rw [e1 t h, upd_ne (S8.nd h), upd_ne (ne_of_none (S8.at_ t h) nr)]
            exact S8.at_ t h
          · obtain rfl := List.mem_singleton.mp h
            rw [if_pos rfl, upd_ne (Ne.symm nrD), upd_same]
            rfl
        · rw [tk] at ht hu
          rcases List.mem_append.mp ht with h | h <;> rcases List.mem_append.mp hu with h2 | h2
          · rw [e1 t h, e1 u h2] at e
            exact S8.inj t h u h2 e
          · obtain rfl := List.mem_singleton.mp h2
            rw [e1 t h, if_pos rfl] at e
            exact absurd e (ne_of_none (S8.at_ t h) nr)
          · obtain rfl := List.mem_singleton.mp h
            rw [e1 u h2, if_pos rfl] at e
            exact absurd e.symm (ne_of_none (S8.at_ u h2) nr)
          · rw [List.mem_singleton.mp h, List.mem_singleton.mp h2]
      · intro t ht
        show H1 (if t = c then r else ad t) = none
        by_cases e : t = c
        · rw [if_pos e]
          exact L2.Same.free sm nr
        · rw [if_neg e]
          refine fr0 t ?_
          rw [List.take_add_one, hc] at ht
          rcases List.mem_append.mp ht with h | h
          · exact h
          · exact absurd (List.mem_singleton.mp h) e
    · rintro H2 ⟨ad, sm, S8, fr0⟩
      rw [List.take_of_length_le (Nat.le_refl _)] at S8
      have nd0 : H D = none := L2.Same.free s1 nD
      have fr : ∀ s ∈ sds l, H (ad s) = none := fun s hs => L2.Same.free s1 (fr0 s (by rw [List.take_of_length_le (Nat.le_refl _)]; exact hs))
      have sm0 : Same H H2 := sm_trans s1 sm
      refine ⟨_, rfl, a, rfl, ?_⟩
      have len : ((bs.map tx).map V.str).length = bs.length := by rw [List.length_map, List.length_map]
      rcases hS with hS | hS
      · have wk2 := walk_list (K := K) (a := a) (xs := (bs.map tx).map V.str)
        rw [len] at wk2
        refine .inl ⟨⟨_, sm_l sm0 hS⟩, for_it wk2 (fun i σ H' => ∃ y3, σ = [some (.str (tx l)), some (.ref a), some (.ref D), y3, none] ∧ Same H H' ∧ SD8 H' (sds l) D ad (adjOf (bs.take i)))
          ⟨_, rfl, sm0, S8⟩ (fun i σ H' _ p => by obtain ⟨_, _, sm, _⟩ := p; exact sm_l sm hS) ?_ ?_⟩
        · rintro i x σ H5 H6 hi ⟨y3, rfl, sm5, S5⟩ ⟨rfl, hx⟩
          rw [List.getElem?_map, List.getElem?_map] at hx
          obtain ⟨z, hz, rfl⟩ := Option.map_eq_some_iff.mp hx
          obtain ⟨b, hbi, rfl⟩ := Option.map_eq_some_iff.mp hz
          obtain ⟨u, v, rfl, hu, hv, huv⟩ := bar_two (hbar b (List.mem_of_getElem? hbi))
          have hbz : (tx [u, v]).length ≤ sizeLine := by rw [tx_len, sizeLine_eq]; show 2 ≤ 16777216; decide
          have nuv : u ≠ v := fun e => by rw [e] at huv; exact Nat.lt_irrefl _ huv
          have hz1 : ∀ s, (adjOf (bs.take i) s).length ≤ 200 := fun s => by
            have h1 := adj_len (bs.take i) s
            have h2 : (bs.take i).length ≤ 100 := Nat.le_trans (by rw [List.length_take]; exact Nat.min_le_right _ _) hbl
            omega
          have S6 := S5.app (c := swp v) hu
          have S7 := S6.app (c := swp u) hv
          have nH : ∀ s ∈ sds l, ∀ o, Same H H6 → Same H (upd H6 (ad s) o) := fun s hs o z => sm_over z (fr s hs)
          refine ⟨_, rfl, _, rfl, _, _, u, rfl, rfl, hbz, rfl, D, _, rfl, S5.get hu, .inl ⟨rfl, _, SqL.of (S5.at_ u hu)⟩, _, rfl, _, _, v, rfl, rfl, hbz, rfl, v, rfl, sds_asc g hv, ad u, _, _, rfl, rfl, S5.at_ u hu, ?_, ?_⟩
          · rw [List.length_map, List.length_map, sizeLine_eq]
            have := hz1 u
            omega
          · refine ⟨_, rfl, _, rfl, _, _, v, rfl, rfl, hbz, rfl, D, _, rfl, S6.get hv, .inl ⟨rfl, _, SqL.of (S6.at_ v hv)⟩, _, rfl, _, _, u, rfl, rfl, hbz, rfl, u, rfl, sds_asc g hu, ad v, _, _, rfl, rfl, S6.at_ v hv, ?_, ?_⟩
            · rw [if_neg (Ne.symm nuv), List.length_map, List.length_map, sizeLine_eq]
              have := hz1 v
              omega
            · refine ⟨_, rfl, sm_over (sm_over sm5 (fr u hu)) (fr v hv), ?_⟩
              have ea : (fun t => if t = v then (if t = u then adjOf (bs.take i) t ++ [swp v] else adjOf (bs.take i) t) ++ [swp u] else if t = u then adjOf (bs.take i) t ++ [swp v] else adjOf (bs.take i) t) = adjOf (bs.take (i + 1)) := by
                funext t
                rw [adj_snoc bs i t [u, v] hbi]
                show _ = adjOf (bs.take i) t ++ ((if u = t then [swp v] else []) ++ (if v = t then [swp u] else []))
                by_cases e1 : t = u
                · subst e1
                  rw [if_neg nuv, if_pos rfl, if_pos rfl, if_neg (Ne.symm nuv)]
                  simp
                · rw [if_neg e1, if_neg (Ne.symm e1)]
                  by_cases e2 : t = v
                  · subst e2
                    rw [if_pos rfl, if_pos rfl]
                    simp
                  · rw [if_neg e2, if_neg (Ne.symm e2)]
                    simp [e1]
              rw [← ea]
              exact S7
        · rintro σ H5 ⟨y3, rfl, sm5, S5⟩
          rw [List.take_of_length_le (Nat.le_refl _)] at S5
          exact ⟨_, rfl, q H5 D ad sm5 nd0 S5⟩
      · have wk2 := walk_tup (K := K) (a := a) (xs := (bs.map tx).map V.str)
        rw [len] at wk2
        refine .inr ⟨⟨_, sm_t sm0 hS⟩, for_it wk2 (fun i σ H' => ∃ y3, σ = [some (.str (tx l)), some (.ref a), some (.ref D), y3, none] ∧ Same H H' ∧ SD8 H' (sds l) D ad (adjOf (bs.take i)))
          ⟨_, rfl, sm0, S8⟩ (fun i σ H' _ p => by obtain ⟨_, _, sm, _⟩ := p; exact sm_t sm hS) ?_ ?_⟩
        · rintro i x σ H5 H6 hi ⟨y3, rfl, sm5, S5⟩ ⟨rfl, hx⟩
          rw [List.getElem?_map, List.getElem?_map] at hx
          obtain ⟨z, hz, rfl⟩ := Option.map_eq_some_iff.mp hx
          obtain ⟨b, hbi, rfl⟩ := Option.map_eq_some_iff.mp hz
          obtain ⟨u, v, rfl, hu, hv, huv⟩ := bar_two (hbar b (List.mem_of_getElem? hbi))
          have hbz : (tx [u, v]).length ≤ sizeLine := by rw [tx_len, sizeLine_eq]; show 2 ≤ 16777216; decide
          have nuv : u ≠ v := fun e => by rw [e] at huv; exact Nat.lt_irrefl _ huv
          have hz1 : ∀ s, (adjOf (bs.take i) s).length ≤ 200 := fun s => by
            have h1 := adj_len (bs.take i) s
            have h2 : (bs.take i).length ≤ 100 := Nat.le_trans (by rw [List.length_take]; exact Nat.min_le_right _ _) hbl
            omega
          have S6 := S5.app (c := swp v) hu
          have S7 := S6.app (c := swp u) hv
          have nH : ∀ s ∈ sds l, ∀ o, Same H H6 → Same H (upd H6 (ad s) o) := fun s hs o z => sm_over z (fr s hs)
          refine ⟨_, rfl, _, rfl, _, _, u, rfl, rfl, hbz, rfl, D, _, rfl, S5.get hu, .inl ⟨rfl, _, SqL.of (S5.at_ u hu)⟩, _, rfl, _, _, v, rfl, rfl, hbz, rfl, v, rfl, sds_asc g hv, ad u, _, _, rfl, rfl, S5.at_ u hu, ?_, ?_⟩
          · rw [List.length_map, List.length_map, sizeLine_eq]
            have := hz1 u
            omega
          · refine ⟨_, rfl, _, rfl, _, _, v, rfl, rfl, hbz, rfl, D, _, rfl, S6.get hv, .inl ⟨rfl, _, SqL.of (S6.at_ v hv)⟩, _, rfl, _, _, u, rfl, rfl, hbz, rfl, u, rfl, sds_asc g hu, ad v, _, _, rfl, rfl, S6.at_ v hv, ?_, ?_⟩
            · rw [if_neg (Ne.symm nuv), List.length_map, List.length_map, sizeLine_eq]
              have := hz1 v
              omega
            · refine ⟨_, rfl, sm_over (sm_over sm5 (fr u hu)) (fr v hv), ?_⟩
              have ea : (fun t => if t = v then (if t = u then adjOf (bs.take i) t ++ [swp v] else adjOf (bs.take i) t) ++ [swp u] else if t = u then adjOf (bs.take i) t ++ [swp v] else adjOf (bs.take i) t) = adjOf (bs.take (i + 1)) := by
                funext t
                rw [adj_snoc bs i t [u, v] hbi]
                show _ = adjOf (bs.take i) t ++ ((if u = t then [swp v] else []) ++ (if v = t then [swp u] else []))
                by_cases e1 : t = u
                · subst e1
                  rw [if_neg nuv, if_pos rfl, if_pos rfl, if_neg (Ne.symm nuv)]
                  simp
                · rw [if_neg e1, if_neg (Ne.symm e1)]
                  by_cases e2 : t = v
                  · subst e2
                    rw [if_pos rfl, if_pos rfl]
                    simp
                  · rw [if_neg e2, if_neg (Ne.symm e2)]
                    simp [e1]
              rw [← ea]
              exact S7
        · rintro σ H5 ⟨y3, rfl, sm5, S5⟩
          rw [List.take_of_length_le (Nat.le_refl _)] at S5
          exact ⟨_, rfl, q H5 D ad sm5 nd0 S5⟩
end
end NC
namespace NC
open PySem PySem.Spec PyProof.Rows L2
abbrev sReached : Stmt := topS 29
theorem scReached : FnScope ["straight", "one", "ahead", "wave", "later", "side", "met"] ["straight", "one"] (defScope sReached) := ⟨rfl, rfl, rfl, by decide +kernel, rfl, by decide +kernel, by decide +kernel⟩
def pV : Option Nat → V
  | none => .non
  | some c => .str (sg c)
def ahK (rs : List (Nat × Option Nat)) : List (Key × V) := rs.map fun r => (Sum.inr (sg r.1), pV r.2)
def kys (rs : List (Nat × Option Nat)) : List Nat := rs.map (·.1)
theorem ahK_no {rs : List (Nat × Option Nat)} {s : Nat} (h : s ∉ kys rs) : valV (ahK rs) (Sum.inr (sg s)) = none := by
  induction rs with
  | nil => rfl
  | cons r t ih =>
    have e : ¬ r.1 = s := fun z => h (by show s ∈ r.1 :: kys t; rw [z]; exact List.mem_cons_self ..)
    exact (valV_neg (p := (Sum.inr (sg r.1), pV r.2)) (fun z => e (sg_inj (Sum.inr.inj z)))).trans (ih fun z => h (List.mem_cons_of_mem _ z))
theorem ahK_some {rs : List (Nat × Option Nat)} {s : Nat} (h : s ∈ kys rs) : ∃ (i : Nat) (p : Option Nat), rs[i]? = some (s, p) ∧ valV (ahK rs) (Sum.inr (sg s)) = some (pV p) := by
  induction rs with
  | nil => cases h
  | cons r t ih =>
    by_cases e : r.1 = s
    · exact ⟨0, r.2, by rw [← e]; rfl, by rw [← e]; exact valV_pos (p := (Sum.inr (sg r.1), pV r.2)) rfl⟩
    · have h2 : s ∈ kys t := by
        rcases List.mem_cons.mp (show s ∈ r.1 :: kys t from h) with z | z
        · exact absurd z.symm e
        · exact z
      obtain ⟨i, p, h3, h4⟩ := ih h2
      exact ⟨i + 1, p, h3, (valV_neg (p := (Sum.inr (sg r.1), pV r.2)) (fun z => e (sg_inj (Sum.inr.inj z)))).trans h4⟩
theorem nd_len : ∀ (a L : List Nat), a.Nodup → (∀ x ∈ a, x ∈ L) → a.length ≤ L.length
  | [], L, _, _ => Nat.zero_le _
  | x :: r, L, hn, hs => by
    obtain ⟨n1, n2⟩ := List.nodup_cons.mp hn
    have m : x ∈ L := hs x (List.mem_cons_self ..)
    have hl := List.length_erase_of_mem m
    have q := nd_len r (L.erase x) n2 fun z hz => (List.mem_erase_of_ne (fun e : z = x => n1 (by rw [← e]; exact hz))).mpr (hs z (List.mem_cons_of_mem _ hz))
    have hp : 0 < L.length := List.length_pos_of_mem m
    rw [List.length_cons]
    omega
/-- the same, to be read alone (the dict may be walked) -/
structure SR8 (H : Hp) (L : List Nat) (d : Addr) (ad : Nat → Addr) (adj : Nat → List Nat) : Prop where
  dk : Rd H d (.dK (stK L ad))
  at_ : ∀ s ∈ L, H (ad s) = some (.lst (((adj s).map sg).map V.str))
theorem SD8.rd {H : Hp} {L : List Nat} {d : Addr} {ad : Nat → Addr} {adj : Nat → List Nat} (S : SD8 H L d ad adj) : SR8 H L d ad adj := ⟨.inl S.dk, S.at_⟩
theorem SR8.same {H H' : Hp} {L : List Nat} {d : Addr} {ad : Nat → Addr} {adj : Nat → List Nat} (S : SR8 H L d ad adj) (e : Same H H') : SR8 H' L d ad adj :=
  ⟨S.dk.elim (fun z => .inl (e _ _ z)) fun ⟨o, z⟩ => .inr ⟨o, e _ _ z⟩, fun s hs => e _ _ (S.at_ s hs)⟩
theorem SR8.get {H : Hp} {L : List Nat} {d : Addr} {ad : Nat → Addr} {adj : Nat → List Nat} (S : SR8 H L d ad adj) {s : Nat} (h : s ∈ L) : DGet H d (.str (sg s)) (some (.ref (ad s))) := by
  rw [← stK_val (ad := ad) h]
  exact .inl ⟨_, Sum.inr (sg s), S.dk, rfl, rfl⟩
structure RsOk (L : List Nat) (adj : Nat → List Nat) (one : Nat) (rs : List (Nat × Option Nat)) : Prop where
  hd : ∃ r, rs = (one, none) :: r
  nd : (kys rs).Nodup
  sub : ∀ s ∈ kys rs, s ∈ L
  par : ∀ (i s : Nat) (p : Option Nat), rs[i]? = some (s, p) → (i = 0 ∧ p = none) ∨ ∃ c j q, p = some c ∧ j < i ∧ rs[j]? = some (c, q) ∧ s ∈ adj c
theorem RsOk.len {L : List Nat} {adj : Nat → List Nat} {one : Nat} {rs : List (Nat × Option Nat)} (h : RsOk L adj one rs) : rs.length ≤ L.length := by
  have := nd_len (kys rs) L h.nd h.sub
  rw [kys, List.length_map] at this
  exact this
theorem RsOk.snoc {L : List Nat} {adj : Nat → List Nat} {one s m : Nat} {rs : List (Nat × Option Nat)} (h : RsOk L adj one rs) (hs : s ∈ kys rs) (hm : m ∈ adj s) (hL : m ∈ L) (hn : m ∉ kys rs) : RsOk L adj one (rs ++ [(m, some s)]) := by
  obtain ⟨r, e⟩ := h.hd
  have ek : kys (rs ++ [(m, some s)]) = kys rs ++ [m] := by simp [kys]
  refine ⟨⟨r ++ [(m, some s)], by rw [e]; rfl⟩, ?_, fun t ht => ?_, fun i t p hi => ?_⟩
  · rw [ek]
    exact nd_snoc h.nd hn
  · rw [ek] at ht
    rcases List.mem_append.mp ht with z | z
    · exact h.sub t z
    · rw [List.mem_singleton.mp z]; exact hL
  · rcases Nat.lt_or_ge i rs.length with hl | hl
    · rw [List.getElem?_append_left hl] at hi
      rcases h.par i t p hi with z | ⟨c, j, q, h1, h2, h3, h4⟩
      · exact .inl z
      · exact .inr ⟨c, j, q, h1, h2, by rw [List.getElem?_append_left (by omega)]; exact h3, h4⟩
    · rw [List.getElem?_append_right hl] at hi
      have hi0 : i - rs.length = 0 := by
        have := (List.getElem?_eq_some_iff.mp hi).1
        simp at this
        omega
      rw [hi0] at hi
      have e2 : (m, some s) = (t, p) := Option.some.inj hi
      cases e2
      obtain ⟨j, q, hj⟩ : ∃ (j : Nat) (q : Option Nat), rs[j]? = some (s, q) := by
        obtain ⟨x, hx, ex⟩ := List.mem_map.mp hs
        obtain ⟨j, hj⟩ := List.getElem?_of_mem hx
        exact ⟨j, x.2, by rw [hj, ← ex]⟩
      have hjl := (List.getElem?_eq_some_iff.mp hj).1
      exact .inr ⟨s, j, q, rfl, by omega, by rw [List.getElem?_append_left hjl]; exact hj, hm⟩
theorem ahK_snoc (rs : List (Nat × Option Nat)) (m s : Nat) (h : m ∉ kys rs) : putK (ahK rs) (Sum.inr (sg m)) (.str (sg s)) = ahK (rs ++ [(m, some s)]) := by
  rw [putK_new _ (ahK_no h)]
  unfold ahK
  rw [List.map_append]
  rfl
inductive Wk (adj : Nat → List Nat) (one : Nat) : Nat → Nat → Prop
  | zero : Wk adj one 0 one
  | step {n s c : Nat} : Wk adj one n s → c ∈ adj s → Wk adj one (n + 1) c
def Dst (adj : Nat → List Nat) (one n s : Nat) : Prop := Wk adj one n s ∧ ∀ m, m < n → ¬ Wk adj one m s
theorem Dst.uniq {adj : Nat → List Nat} {one n m s : Nat} (a : Dst adj one n s) (b : Dst adj one m s) : n = m := by
  rcases Nat.lt_trichotomy n m with h | h | h
  · exact absurd a.1 (b.2 n h)
  · exact h
  · exact absurd b.1 (a.2 m h)
def Lvl (adj : Nat → List Nat) (one : Nat) (rs : List (Nat × Option Nat)) : Prop := ∀ (i s c : Nat), rs[i]? = some (s, some c) → ∃ m, Dst adj one m c ∧ Dst adj one (m + 1) s
def Fil (adj : Nat → List Nat) (one n : Nat) (rs : List (Nat × Option Nat)) : Prop := ∀ m t, m ≤ n → Wk adj one m t → t ∈ kys rs
def Frn (adj : Nat → List Nat) (one n : Nat) (wv : List Nat) : Prop := ∀ t ∈ wv, Dst adj one n t
theorem Dst.zero {adj : Nat → List Nat} {one : Nat} : Dst adj one 0 one := ⟨.zero, fun m h => absurd h (Nat.not_lt_zero _)⟩
theorem Lvl.one {adj : Nat → List Nat} {one : Nat} : Lvl adj one [(one, none)] := fun i s c h => by
  have hi := (List.getElem?_eq_some_iff.mp h).1
  have h0 : i = 0 := by simp at hi; omega
  subst h0
  cases h
theorem Fil.one {adj : Nat → List Nat} {one : Nat} : Fil adj one 0 [(one, none)] := fun m t h w => by
  obtain rfl : m = 0 := by omega
  cases w
  simp [kys]
theorem Frn.one {adj : Nat → List Nat} {one : Nat} : Frn adj one 0 [one] := fun t h => by rw [List.mem_singleton.mp h]; exact .zero
theorem Lvl.snoc {adj : Nat → List Nat} {one n s m : Nat} {rs : List (Nat × Option Nat)} (h : Lvl adj one rs) (a : Dst adj one n s) (b : Dst adj one (n + 1) m) : Lvl adj one (rs ++ [(m, some s)]) := fun i t c hi => by
  rcases Nat.lt_or_ge i rs.length with hl | hl
  · rw [List.getElem?_append_left hl] at hi
    exact h i t c hi
  · rw [List.getElem?_append_right hl] at hi
    have h0 : i - rs.length = 0 := by
      have := (List.getElem?_eq_some_iff.mp hi).1
      simp at this
      omega
    rw [h0] at hi
    cases hi
    exact ⟨n, a, b⟩
theorem Frn.snoc {adj : Nat → List Nat} {one n m : Nat} {wv : List Nat} (h : Frn adj one n wv) (b : Dst adj one n m) : Frn adj one n (wv ++ [m]) := fun t ht => by
  rcases List.mem_append.mp ht with z | z
  · exact h t z
  · rw [List.mem_singleton.mp z]; exact b
theorem Fil.next {adj : Nat → List Nat} {one n : Nat} {rs rs2 : List (Nat × Option Nat)} {lt : List Nat} (f : Fil adj one n rs) (k : ∀ t ∈ kys rs, t ∈ kys rs2) (fr : Frn adj one (n + 1) lt) (cl : ∀ u ∈ kys rs2, u ∉ lt → ∀ c ∈ adj u, c ∈ kys rs2) : Fil adj one (n + 1) rs2 := fun m t hm w => by
  rcases Nat.lt_or_ge n m with h | h
  · obtain rfl : m = n + 1 := by omega
    cases w with
    | step ws ht => exact cl _ (k _ (f n _ (Nat.le_refl _) ws)) (fun z => (fr _ z).2 n (Nat.lt_succ_self _) ws) t ht
  · exact k t (f m t h w)
theorem reach_in {adj : Nat → List Nat} {one : Nat} {rs : List (Nat × Option Nat)} (h0 : one ∈ kys rs) (cl : ∀ s ∈ kys rs, ∀ c ∈ adj s, c ∈ kys rs) {n s : Nat} (w : Wk adj one n s) : s ∈ kys rs := by
  induction w with
  | zero => exact h0
  | step _ hc ih => exact cl _ ih _ hc
section
variable {P : Program} {w : World} {K : PySem.W.Frag} {mg : Str → Option Value} {base : Heap}
def spReached : Sp := fun vs H Q _ => ∃ L d ad adj one, vs = [.ref d, .str (sg one)] ∧ SR8 H L d ad adj ∧ one ∈ L ∧ (∀ s ∈ L, ∀ c ∈ adj s, c ∈ L) ∧ L.length ≤ 24 ∧
  ∀ H' a rs, Same H H' → H a = none → RsOk L adj one rs → (∀ s ∈ kys rs, ∀ c ∈ adj s, c ∈ kys rs) → Lvl adj one rs → H' a = some (.dK (ahK rs)) → Q (.ref a) H'
set_option maxHeartbeats 1000000 in
theorem ok_reached {f : Addr} {fd : FuncData} {k : Nat} (F : Fun K "reached" "reached" sReached f fd) : FnOk P w K mg base CX0 (k + 1) f fd ["straight", "one"] spReached := by
  refine F.ok scReached (fun vs H Q E h => ?_) (fun cdv A outer s H vs Q E hr h => ?_)
  · obtain ⟨L, d, ad, adj, one, rfl, _⟩ := h
    rfl
  · obtain ⟨L, d, ad, adj, one, rfl, S8, hone, hadj, hL, q⟩ := h
    refine ⟨_, pss_cons (ps_set (i := 2) scReached.nd rfl (.inl rfl) (pe_disp (pps_cons (pv 1) pe_non pps_nil) (by rfl) (by rfl) (fun z => by cases z) (by decide)))
      (pss_cons (ps_set (i := 3) scReached.nd rfl (.inl rfl) (pe_lst (pa_cons (pv 1) pa_nil)))
      (pss_cons (ps_while PassesOwn.never (pt_truth (pv 3) (by intro _; rfl))
        (pss_cons (ps_set (i := 4) scReached.nd rfl (.inl rfl) (pe_lst pa_nil))
        (pss_cons (ps_for PassesOwn.never rfl (pi_list (pv 3)) (pg_name (i := 5) scReached.nd rfl (Or.inl rfl))
          (pss_one (ps_for PassesOwn.never rfl (pi_list (pe_dget (hu_of hr) (pv 0) (pv 5) (fun _ _ => rfl))) (pg_name (i := 6) scReached.nd rfl (Or.inl rfl))
            (pss_one (ps_if (pt_cmp (pc_dnotin (hu_of hr) (pv 6) (pv 2)))
              (pss_cons (ps_dput (hu_of hr) (pv 2) (pv 6) (pv 5) rfl)
              (pss_one (ps_expr (pe_bm PySem.F.plainAttrs_list PySem.F.slot_list_append PySem.F.type_list_append mt_append (pv 4) (pa_cons (pv 6) pa_nil))))) pss_nil)))))
        (pss_one (ps_set (i := 3) scReached.nd rfl (.inl rfl) (pv 4))))))
      (pss_one (ps_ret (pv 2))))), ?_⟩
    refine fun A0 nA => ⟨_, rfl, upd_same, [(Sum.inr (sg one), .non)], rfl, by show 1 ≤ 15; decide, ?_⟩
    have eA : upd (upd H A0 (.dK [])) A0 (.dK (mergeK [] [(Sum.inr (sg one), .non)])) = upd H A0 (.dK (ahK [(one, none)])) := by
      rw [L2.upd_upd]
      rfl
    rw [eA]
    refine ⟨_, rfl, by show 1 ≤ sizeLine; decide, fun W0 nW => ?_⟩
    have nAW : A0 ≠ W0 := ne_of_none upd_same nW
    have nW0 : H W0 = none := by
      rw [upd_ne (Ne.symm nAW)] at nW
      exact nW
    -- the while
    refine ⟨fun m σ H' => ∃ rs wv Wd y4 y5 y6, σ = [some (.ref d), some (.str (sg one)), some (.ref A0), some (.ref Wd), y4, y5, y6] ∧ Same H H' ∧ H Wd = none ∧ H' A0 = some (.dK (ahK rs)) ∧ H' Wd = some (.lst ((wv.map sg).map V.str)) ∧
      RsOk L adj one rs ∧ (∀ t ∈ wv, t ∈ kys rs) ∧ wv.length ≤ 24 ∧ (∀ t ∈ kys rs, t ∉ wv → ∀ c ∈ adj t, c ∈ kys rs) ∧ (∃ n, Lvl adj one rs ∧ Fil adj one n rs ∧ Frn adj one n wv) ∧ m = 2 * (24 - rs.length) + (if wv = [] then 0 else 1), ?_, ?_⟩
    · refine ⟨_, [(one, none)], [one], W0, _, _, _, rfl, sm_upd (same_upd nA) nW, nW0, ?_, upd_same, ⟨⟨[], rfl⟩, by simp [kys], fun t ht => ?_, fun i t p hi => ?_⟩, fun t ht => by simpa [kys] using ht, by show 1 ≤ 24; decide, fun t ht hn => ?_, ⟨0, Lvl.one, Fil.one, Frn.one⟩, rfl⟩
      · rw [upd_ne nAW, upd_same]
      · have e : t = one := by simpa [kys] using ht
        rw [e]; exact hone
      · have hi0 : i = 0 := by
          have := (List.getElem?_eq_some_iff.mp hi).1
          simp at this
          omega
        subst hi0
        cases hi
        exact .inl ⟨rfl, rfl⟩
      · have e : t = one := by simpa [kys] using ht
        exact absurd (by simp [e]) hn
    · rintro m σ H1 ⟨rs, wv, Wd, y4, y5, y6, rfl, sm, nWd, eA1, eW, R, hwv, hwl, hdone, ⟨n, LV, FL, FR⟩, rfl⟩
      refine ⟨_, rfl, _, .inl ⟨_, SqL.of eW, rfl⟩, ite2 (fun hne => ?_) (fun he => ?_)⟩
      · -- a turn of the while
        have hw0 : wv ≠ [] := fun z => by
          rw [z] at hne
          exact absurd hne (by decide)
        refine ⟨fun σ' H' => ∃ (rs2 : List (Nat × Option Nat)) (lt : List Nat) (Wd2 : Addr) (y4 y5 y6 : Option V), σ' = [some (.ref d), some (.str (sg one)), some (.ref A0), some (.ref Wd2), y4, y5, y6] ∧ Same H H' ∧ H Wd2 = none ∧ H' A0 = some (.dK (ahK rs2)) ∧ H' Wd2 = some (.lst ((lt.map sg).map V.str)) ∧
          RsOk L adj one rs2 ∧ (∀ t ∈ lt, t ∈ kys rs2) ∧ lt.length ≤ 24 ∧ (∀ t ∈ kys rs2, t ∉ lt → ∀ c ∈ adj t, c ∈ kys rs2) ∧ (∃ n, Lvl adj one rs2 ∧ Fil adj one n rs2 ∧ Frn adj one n lt) ∧ rs2.length = rs.length + lt.length, ?_, ?_⟩
        · rintro σ' H' ⟨rs2, lt, Wd2, y4, y5, y6, h1, h2, h3, h4, h5, h6, h7, h8, h9, hL, h10⟩
          refine ⟨_, ?_, rs2, lt, Wd2, y4, y5, y6, h1, h2, h3, h4, h5, h6, h7, h8, h9, hL, rfl⟩
          have l2 := h6.len
          rw [if_neg hw0]
          by_cases e : lt = []
          · rw [if_pos e, h10, e]
            simp
          · rw [if_neg e, h10]
            have : 0 < lt.length := List.length_pos_iff.mpr e
            omega
        · refine ⟨Nat.zero_le _, fun T nT => ?_⟩
          have nTA : A0 ≠ T := ne_of_none eA1 nT
          have nTW : Wd ≠ T := ne_of_none eW nT
          have nTH : H T = none := L2.Same.free sm nT
          have wk := walk_list (K := K) (a := Wd) (xs := (wv.map sg).map V.str)
          rw [List.length_map, List.length_map] at wk
          refine ⟨_, rfl, Wd, rfl, ⟨_, SqL.of (by rw [upd_ne nTW]; exact eW)⟩, for_it wk (fun i σ H' => ∃ (rs2 : List (Nat × Option Nat)) (lt : List Nat) (y5 y6 : Option V), σ = [some (.ref d), some (.str (sg one)), some (.ref A0), some (.ref Wd), some (.ref T), y5, y6] ∧ Same H H' ∧ H' A0 = some (.dK (ahK rs2)) ∧
            H' Wd = some (.lst ((wv.map sg).map V.str)) ∧ H' T = some (.lst ((lt.map sg).map V.str)) ∧ RsOk L adj one rs2 ∧ rs2.length = rs.length + lt.length ∧ (∀ t ∈ kys rs, t ∈ kys rs2) ∧ (∀ t ∈ lt, t ∈ kys rs2) ∧
            (∀ t ∈ kys rs2, t ∉ lt → t ∉ wv.drop i → ∀ c ∈ adj t, c ∈ kys rs2) ∧ Lvl adj one rs2 ∧ Frn adj one (n + 1) lt)
            ⟨rs, [], _, _, rfl, sm_upd sm nT, by rw [upd_ne nTA]; exact eA1, by rw [upd_ne nTW]; exact eW, upd_same, R, rfl, fun _ h => h, (fun t h => absurd h (by simp)), (fun t h1 _ h2 => hdone t h1 h2), LV, (fun t h => absurd h (by simp))⟩
            (fun i σ H' _ p => by obtain ⟨_, _, _, _, _, _, _, h, _⟩ := p; exact SqL.of h) ?_ ?_⟩
          · rintro i x σ H2 H3 hi ⟨rs2, lt, y5, y6, rfl, s2, a2, w2, t2, R2, len2, k2, lk2, dn2, LV2, FR2⟩ ⟨rfl, hx⟩
            rw [List.getElem?_map, List.getElem?_map] at hx
            obtain ⟨z, hz, rfl⟩ := Option.map_eq_some_iff.mp hx
            obtain ⟨t, ht, rfl⟩ := Option.map_eq_some_iff.mp hz
            have htk : t ∈ kys rs2 := k2 t (hwv t (List.mem_of_getElem? ht))
            have htL : t ∈ L := R2.sub t htk
            have S2 : SR8 H3 L d ad adj := S8.same s2
            have wk3 := walk_list (K := K) (a := ad t) (xs := ((adj t).map sg).map V.str)
            rw [List.length_map, List.length_map] at wk3
            refine ⟨_, rfl, _, rfl, d, _, rfl, S2.get htL, ad t, rfl, ⟨_, SqL.of (S2.at_ t htL)⟩, for_it wk3 (fun j σ H' => ∃ (rs3 : List (Nat × Option Nat)) (lt3 : List Nat) (y6 : Option V), σ = [some (.ref d), some (.str (sg one)), some (.ref A0), some (.ref Wd), some (.ref T), some (.str (sg t)), y6] ∧ Same H H' ∧
              H' A0 = some (.dK (ahK rs3)) ∧ H' Wd = some (.lst ((wv.map sg).map V.str)) ∧ H' T = some (.lst ((lt3.map sg).map V.str)) ∧ RsOk L adj one rs3 ∧ rs3.length = rs.length + lt3.length ∧ (∀ u ∈ kys rs2, u ∈ kys rs3) ∧ (∀ u ∈ lt3, u ∈ kys rs3) ∧
              (∀ u ∈ kys rs3, u ∉ lt3 → u ∉ wv.drop i → ∀ c ∈ adj u, c ∈ kys rs3) ∧ (∀ c ∈ (adj t).take j, c ∈ kys rs3) ∧ Lvl adj one rs3 ∧ Frn adj one (n + 1) lt3)
              ⟨rs2, lt, _, rfl, s2, a2, w2, t2, R2, len2, fun _ h => h, lk2, dn2, (fun _ h => by simp at h), LV2, FR2⟩
              (fun j σ H' _ p => by obtain ⟨_, _, _, _, s3, _⟩ := p; exact SqL.of ((S8.same s3).at_ t htL)) ?_ ?_⟩
            · rintro j x σ H4 H5 hj ⟨rs3, lt3, y6, rfl, s3, a3, w3, t3, R3, len3, k3, lk3, dn3, tk3, LV3, FR3⟩ ⟨rfl, hx⟩
              rw [List.getElem?_map, List.getElem?_map] at hx
              obtain ⟨z, hz, rfl⟩ := Option.map_eq_some_iff.mp hx
              obtain ⟨m, hm, rfl⟩ := Option.map_eq_some_iff.mp hz
              have hma : m ∈ adj t := List.mem_of_getElem? hm
              have hmL : m ∈ L := hadj t htL m hma
              have l3 := R3.len
              have tkS : (adj t).take (j + 1) = (adj t).take j ++ [m] := by rw [List.take_add_one, hm]; rfl
              refine ⟨_, rfl, _, rfl, A0, _, rfl, DGet.k (k := Sum.inr (sg m)) a3, _, rfl, ite2 (fun hn => ?_) (fun hn => ?_)⟩
              · have hmn : m ∉ kys rs3 := fun z => by
                  obtain ⟨_, p, _, e⟩ := ahK_some z
                  rw [e] at hn
                  exact absurd hn Bool.false_ne_true
                have R4 := R3.snoc (k3 t htk) hma hmL hmn
                have dT : Dst adj one n t := FR t (List.mem_of_getElem? ht)
                have dM : Dst adj one (n + 1) m := ⟨.step dT.1 hma, fun j hj w => hmn (k3 m (k2 m (FL j m (by omega) w)))⟩
                have l4 := R4.len
                rw [List.length_append] at l4
                have l4 : rs3.length + 1 ≤ L.length := l4
                have ek : kys (rs3 ++ [(m, some t)]) = kys rs3 ++ [m] := by simp [kys]
                refine ⟨_, rfl, _, rfl, _, rfl, A0, _, rfl, DPut.k (k := Sum.inr (sg m)) a3 (by unfold ahK; rw [List.length_map, sizeLine_eq]; omega), ?_⟩
                rw [ahK_snoc rs3 m t hmn]
                have eT : (upd H5 A0 (.dK (ahK (rs3 ++ [(m, some t)])))) T = some (.lst ((lt3.map sg).map V.str)) := by rw [upd_ne (Ne.symm nTA)]; exact t3
                refine ⟨_, rfl, .inl ⟨rfl, _, SqL.of eT⟩, _, rfl, T, _, _, rfl, rfl, eT, by rw [List.length_map, List.length_map, sizeLine_eq]; omega, ?_⟩
                refine ⟨rs3 ++ [(m, some t)], lt3 ++ [m], _, rfl, sm_over (sm_over s3 nA) nTH, ?_, ?_, ?_, R4, ?_, fun u hu => ?_, fun u hu => ?_, fun u h1 h2 h3 c hc => ?_, fun c hc => ?_, LV3.snoc dT dM, FR3.snoc dM⟩
                · rw [upd_ne nTA, upd_same]
                · rw [upd_ne nTW, upd_ne (ne_of w3 a3 fun z => by cases z)]
                  exact w3
                · rw [upd_same, List.map_append, List.map_append]
                  rfl
                · rw [List.length_append, List.length_append, len3]
                  rfl
                · rw [ek]; exact List.mem_append_left _ (k3 u hu)
                · rw [ek]
                  rcases List.mem_append.mp hu with z | z
                  · exact List.mem_append_left _ (lk3 u z)
                  · exact List.mem_append_right _ z
                · rw [ek] at h1 ⊢
                  have h4 : u ∉ lt3 := fun z => h2 (List.mem_append_left _ z)
                  have h5 : u ∈ kys rs3 := by
                    rcases List.mem_append.mp h1 with z | z
                    · exact z
                    · exact absurd (List.mem_append_right _ z) h2
                  exact List.mem_append_left _ (dn3 u h5 h4 h3 c hc)
                · rw [ek]
                  rw [tkS] at hc
                  rcases List.mem_append.mp hc with z | z
                  · exact List.mem_append_left _ (tk3 c z)
                  · exact List.mem_append_right _ z
              · have hmi : m ∈ kys rs3 := by
                  refine Classical.byContradiction fun z => hn ?_
                  rw [ahK_no z]
                  rfl
                refine ⟨rs3, lt3, _, rfl, s3, a3, w3, t3, R3, len3, k3, lk3, dn3, fun c hc => ?_, LV3, FR3⟩
                rw [tkS] at hc
                rcases List.mem_append.mp hc with z | z
                · exact tk3 c z
                · rw [List.mem_singleton.mp z]; exact hmi
            · rintro σ H4 ⟨rs3, lt3, y6, rfl, s3, a3, w3, t3, R3, len3, k3, lk3, dn3, tk3, LV3, FR3⟩
              rw [List.take_of_length_le (Nat.le_refl _)] at tk3
              refine ⟨rs3, lt3, _, _, rfl, s3, a3, w3, t3, R3, len3, fun u hu => k3 u (k2 u hu), lk3, fun u h1 h2 h3 c hc => ?_, LV3, FR3⟩
              by_cases e : u = t
              · rw [e] at hc
                exact tk3 c hc
              · refine dn3 u h1 h2 (fun z => h3 ?_) c hc
                rw [List.drop_eq_getElem_cons hi] at z
                rcases List.mem_cons.mp z with z | z
                · have e2 : wv[i] = t := by
                    rw [List.getElem?_eq_getElem hi] at ht
                    exact Option.some.inj ht
                  exact absurd (z.trans e2) e
                · exact z
          · rintro σ H4 ⟨rs2, lt, y5, y6, rfl, s2, a2, w2, t2, R2, len2, k2, lk2, dn2, LV2, FR2⟩
            have l2 := R2.len
            exact ⟨_, rfl, rs2, lt, T, _, _, _, rfl, s2, nTH, a2, t2, R2, lk2, by omega, fun u h1 h2 => dn2 u h1 h2 (by simp), ⟨n + 1, LV2, FL.next k2 FR2 (fun u h1 h2 => dn2 u h1 h2 (by simp)), FR2⟩, len2⟩
      · have e : wv = [] := by
          cases wv with
          | nil => rfl
          | cons x r => exact absurd rfl he
        exact ⟨_, rfl, q H1 A0 rs sm nA R (fun t ht => hdone t ht (by rw [e]; simp)) LV eA1⟩
end
end NC
namespace NC
open PySem PySem.Spec PyProof.Rows L2
abbrev sAllF : Stmt := topS 30
theorem scAllF : FnScope ["walls", "bars", "straight", "side"] ["walls", "bars"] (defScope sAllF) := ⟨rfl, rfl, rfl, by decide +kernel, rfl, by decide +kernel, by decide +kernel⟩
def foK (L : List Nat) (fo : Nat → List Nat) : List (Key × V) := L.map fun s => (Sum.inr (sg s), V.str (tx (fo s)))
theorem foK_val {L : List Nat} {fo : Nat → List Nat} {s : Nat} (h : s ∈ L) : valV (foK L fo) (Sum.inr (sg s)) = some (.str (tx (fo s))) := by
  induction L with
  | nil => cases h
  | cons t r ih =>
    by_cases e : t = s
    · subst e
      exact valV_pos (p := (Sum.inr (sg t), V.str (tx (fo t)))) rfl
    · have h2 : s ∈ r := by
        rcases List.mem_cons.mp h with z | z
        · exact absurd z.symm e
        · exact z
      exact (valV_neg (p := (Sum.inr (sg t), V.str (tx (fo t)))) (fun z => e (sg_inj (Sum.inr.inj z)))).trans (ih h2)
theorem foK_no {L : List Nat} {fo : Nat → List Nat} {s : Nat} (h : s ∉ L) : valV (foK L fo) (Sum.inr (sg s)) = none := by
  induction L with
  | nil => rfl
  | cons t r ih =>
    have e : ¬ t = s := fun z => h (by rw [z]; exact List.mem_cons_self ..)
    exact (valV_neg (p := (Sum.inr (sg t), V.str (tx (fo t)))) (fun z => e (sg_inj (Sum.inr.inj z)))).trans (ih fun z => h (List.mem_cons_of_mem _ z))
/-- what a side forces, as all_forced tells it -/
def FoOk (l : List Nat) (adj : Nat → List Nat) (L : List Nat) (fo : Nat → List Nat) : Prop := ∀ s ∈ L, ∃ rs, RsOk (sds l) adj s rs ∧ (∀ t ∈ kys rs, ∀ c ∈ adj t, c ∈ kys rs) ∧ fo s = byW l (ahK rs)
theorem take_new {L : List Nat} (nd : L.Nodup) {i c : Nat} (hc : L[i]? = some c) : c ∉ L.take i := fun hm => by
  obtain ⟨j, hj⟩ := List.getElem?_of_mem hm
  have hji : j < i := by
    have := (List.getElem?_eq_some_iff.mp hj).1
    rw [List.length_take] at this
    omega
  rw [List.getElem?_take_of_lt hji] at hj
  exact absurd ((List.getElem?_inj (List.getElem?_eq_some_iff.mp hj).1 nd).mp (hj.trans hc.symm)) (Nat.ne_of_lt hji)
section
variable {P : Program} {w : World} {K : PySem.W.Frag} {mg : Str → Option Value} {base : Heap}
def spAllF (K : PySem.W.Frag) : Sp := fun vs H Q _ => ∃ l a bs, vs = [.str (tx l), .ref a] ∧ GoodW l ∧ (∀ b ∈ bs, isBar l b = true) ∧ bs.length ≤ 100 ∧ (SqL K H a ((bs.map tx).map V.str) ∨ SqT K H a ((bs.map tx).map V.str)) ∧
  ∀ H' D fo, Same H H' → H D = none → H' D = some (.dK (foK (sds l) fo)) → FoOk l (adjOf bs) (sds l) fo → Q (.ref D) H'
set_option maxHeartbeats 1000000 in
theorem ok_allF {f fT fR fB fS fO : Addr} {fd fdT fdR fdB fdS fdO : FuncData} {k : Nat} (B : BM mg) (F : Fun K "all_forced" "all_forced" sAllF f fd) (T : DF K mg "straight_from" sStraight ["walls", "bars"] fT fdT)
    (R : DF K mg "reached" sReached ["straight", "one"] fR fdR) (Y : DF K mg "by_walls" sByWalls ["walls", "sides"] fB fdB) (S : DF K mg "sides_of" sSides ["walls"] fS fdS) (O : DF K mg "other" sOther ["side"] fO fdO) :
    FnOk P w K mg base CX0 (k + 3) f fd ["walls", "bars"] (spAllF K) := by
  have GT : FnOk P w K mg base CX0 (k + 2) fT fdT ["walls", "bars"] (spStraight K) := ok_straight B T.F S O
  have GR : FnOk P w K mg base CX0 (k + 2) fR fdR ["straight", "one"] spReached := ok_reached R.F
  have GY : FnOk P w K mg base CX0 (k + 2) fB fdB ["walls", "sides"] spByWalls := ok_byWalls B Y.F O
  refine F.ok scAllF (fun vs H Q E h => ?_) (fun cdv A outer s H vs Q E hr h => ?_)
  · obtain ⟨l, a, bs, rfl, _⟩ := h
    rfl
  · obtain ⟨l, a, bs, rfl, g, hbar, hbl, hS, q⟩ := h
    refine ⟨_, pss_cons (ps_set (i := 2) scAllF.nd rfl (.inr rfl) (pe_call GT hr rfl T.g T.F.kp T.b .nil pass0 (pa_cons (pv 0) (pa_cons (pv 1) pa_nil))))
      (pss_one (ps_ret (pe_lock (pe_dc (own := [("side", 3)]) (g := gName 3) (tt := tYes) rfl scAllF.nd (pi_keys (pv 2)) (blkOk_by (N := ["walls", "bars", "straight", "side"]) (sc := defScope sAllF) (by decide +kernel))
        (fun _ _ _ _ _ => pg_name (i := 3) scAllF.nd rfl (Or.inl rfl)) (fun _ _ _ _ _ => pts_nil) (fun _ _ _ _ _ => pv 3)
        (fun _ _ _ _ _ => pe_call GY hr rfl Y.g Y.F.kp Y.b .nil pass0 (pa_cons (pv 0) (pa_cons (pe_call GR hr rfl R.g R.F.kp R.b .nil pass0 (pa_cons (pv 2) (pa_cons (pv 3) pa_nil))) pa_nil))))))), ?_⟩
    refine ⟨_, rfl, _, rfl, l, a, bs, rfl, g, hbar, hbl, hS, fun H1 d ad s1 nd1 S8 => ?_⟩
    refine ⟨d, _, S8.dk, trivial, fun od => ?_⟩
    refine ⟨_, rfl, d, od, rfl, .inl ⟨_, upd_same, fun D nD => ?_⟩⟩
    have ndD : D ≠ d := fun e => by
      rw [e, upd_same] at nD
      cases nD
    have SR : SR8 (upd H1 d (.frz od (.dK (stK (sds l) ad)))) (sds l) d ad (adjOf bs) := ⟨.inr ⟨od, upd_same⟩, fun s hs => by rw [upd_ne (S8.nd hs)]; exact S8.at_ s hs⟩
    have e0 : (upd H1 d (.frz od (.dK (stK (sds l) ad)))) d = some (.frz od (.dK (stK (sds l) ad))) := upd_same
    have s2 : Same H (upd H1 d (.frz od (.dK (stK (sds l) ad)))) := sm_over s1 nd1
    generalize (upd H1 d (.frz od (.dK (stK (sds l) ad)))) = H2 at nD SR e0 s2 ⊢
    have wk := walk_keys (d := d) (o := od) (kvs := stK (sds l) ad)
    have len : (stK (sds l) ad).length = (sds l).length := by unfold stK; rw [List.length_map]
    rw [len] at wk
    have hD0 : H D = none := L2.Same.free s2 nD
    refine dc_it wk (fun i H' => ∃ fo, Same H2 H' ∧ H' D = some (.dK (foK ((sds l).take i) fo)) ∧ FoOk l (adjOf bs) ((sds l).take i) fo)
      ⟨fun _ => [], same_upd nD, upd_same, fun s hs => by simp at hs⟩ (fun i H' _ h => by obtain ⟨_, sm, _⟩ := h; exact sm _ _ e0) ?_ ?_
    · rintro i x H3 H4 hi ⟨fo, sm, eD, ok⟩ ⟨rfl, kk, v, hk, rfl⟩
      unfold stK at hk
      rw [List.getElem?_map] at hk
      obtain ⟨c, hc, e⟩ := Option.map_eq_some_iff.mp hk
      obtain ⟨rfl, rfl⟩ := Prod.mk.inj e
      have hcL : c ∈ sds l := List.mem_of_getElem? hc
      have hnc := take_new (sds_nd g) hc
      have tk : (sds l).take (i + 1) = (sds l).take i ++ [c] := by rw [List.take_add_one, hc]; rfl
      refine ⟨rfl, yes_i ⟨_, rfl, _, rfl, _, rfl, _, rfl, sds l, d, ad, adjOf bs, c, rfl, SR.same sm, hcL, fun s hs c hc => adj_mem g hbar hc, sds_len g, fun H5 r rs s5 nr R5 cl _ er => ?_⟩⟩
      refine ⟨l, r, _, rfl, g, er, fun H6 s6 => ?_⟩
      have e1 : ∀ t ∈ (sds l).take i, (if t = c then byW l (ahK rs) else fo t) = fo t := fun t ht => if_neg fun e => hnc (by rw [← e]; exact ht)
      have eD6 : H6 D = some (.dK (foK ((sds l).take i) fo)) := s6 _ _ (s5 _ _ eD)
      refine ⟨foK ((sds l).take i) fo, Sum.inr (sg c), rfl, eD6, ?_, fun t => if t = c then byW l (ahK rs) else fo t, ?_, ?_, ?_⟩
      · unfold foK
        rw [List.length_map, List.length_take, sizeLine_eq]
        have := sds_len g
        omega
      · exact sm_over (sm_trans (sm_trans sm s5) s6) nD
      · rw [upd_same, putK_new _ (foK_no hnc), tk]
        unfold foK
        rw [List.map_append]
        rw [List.map_congr_left (g := fun s => (Sum.inr (sg s), V.str (tx (if s = c then byW l (ahK rs) else fo s)))) fun t ht => by rw [e1 t ht]]
        simp
      · intro t ht
        rw [tk] at ht
        rcases List.mem_append.mp ht with h | h
        · obtain ⟨rs', a1, a2, a3⟩ := ok t h
          exact ⟨rs', a1, a2, (e1 t h).trans a3⟩
        · obtain rfl := List.mem_singleton.mp h
          exact ⟨rs, R5, cl, if_pos rfl⟩
    · rintro H3 ⟨fo, sm, eD, ok⟩
      rw [List.take_of_length_le (Nat.le_refl _)] at eD ok
      refine ⟨sm _ _ e0, q _ D fo (sm_over (sm_trans s2 sm) nd1) hD0 ?_ ok⟩
      rw [upd_ne ndD]
      exact eD
end
end NC
namespace NC
open PySem PySem.Spec PyProof.Rows L2
def isLt (c : Nat) : Prop := (97 ≤ c ∧ c ≤ 122) ∨ (65 ≤ c ∧ c ≤ 90)
theorem sds_lt {l : List Nat} (g : GoodW l) {s : Nat} (h : s ∈ sds l) : isLt s := (sds_shape g h).imp (fun z => ⟨z.1, z.2.1⟩) (fun z => ⟨z.1, z.2.1⟩)
theorem swp_small {c : Nat} (h : 97 ≤ c ∧ c ≤ 122) : swp c = c - 32 := by unfold swp; rw [if_pos h]
theorem swp_great {c : Nat} (h : 65 ≤ c ∧ c ≤ 90) : swp c = c + 32 := by unfold swp; rw [if_neg (by omega), if_pos h]
theorem swp_swp {c : Nat} (h : isLt c) : swp (swp c) = c := by
  rcases h with h | h
  · rw [swp_small h, swp_great (by omega)]
    omega
  · rw [swp_great h, swp_small (by omega)]
    omega
theorem isLt.asc {c : Nat} (h : isLt c) : c < 128 := by rcases h with h | h <;> omega
/-- a side forces another -/
def Frc (adj : Nat → List Nat) (s t : Nat) : Prop := ∃ n, Wk adj s n t
theorem Frc.refl {adj : Nat → List Nat} {s : Nat} : Frc adj s s := ⟨0, .zero⟩
theorem Frc.step {adj : Nat → List Nat} {s t u : Nat} (h : Frc adj s t) (k : u ∈ adj t) : Frc adj s u := let ⟨n, w⟩ := h; ⟨n + 1, .step w k⟩
theorem Frc.ind {adj : Nat → List Nat} {s t : Nat} (h : Frc adj s t) {p : Nat → Prop} (h0 : p s) (hs : ∀ a b, p a → b ∈ adj a → p b) : p t := by
  obtain ⟨n, w⟩ := h
  induction w with
  | zero => exact h0
  | step _ k ih => exact hs _ _ ih k
theorem Frc.trans {adj : Nat → List Nat} {s t u : Nat} (a : Frc adj s t) (b : Frc adj t u) : Frc adj s u := b.ind (p := fun x => Frc adj s x) a fun _ _ h k => h.step k
theorem adj_iff {l : List Nat} (g : GoodW l) {bs : List (List Nat)} (hb : ∀ b ∈ bs, isBar l b = true) {a b : Nat} (h : isLt b) : b ∈ adjOf bs a ↔ [a, swp b] ∈ bs ∨ [swp b, a] ∈ bs := by
  constructor
  · intro z
    obtain ⟨c, hc, z⟩ := List.mem_flatMap.mp z
    obtain ⟨x, y, rfl, hx, hy, _⟩ := bar_two (hb c hc)
    have z : b ∈ (if x = a then [swp y] else []) ++ (if y = a then [swp x] else []) := z
    rcases List.mem_append.mp z with z | z
    · split at z
      · rename_i e
        rw [List.mem_singleton.mp z, swp_swp (sds_lt g hy), ← e]
        exact .inl hc
      · cases z
    · split at z
      · rename_i e
        rw [List.mem_singleton.mp z, swp_swp (sds_lt g hx), ← e]
        exact .inr hc
      · cases z
  · rintro (z | z)
    · refine List.mem_flatMap.mpr ⟨_, z, ?_⟩
      show b ∈ (if a = a then [swp (swp b)] else []) ++ _
      rw [if_pos rfl, swp_swp h]
      exact List.mem_append_left _ (List.mem_singleton.mpr rfl)
    · refine List.mem_flatMap.mpr ⟨_, z, ?_⟩
      show b ∈ _ ++ (if a = a then [swp (swp b)] else [])
      rw [if_pos rfl, swp_swp h]
      exact List.mem_append_right _ (List.mem_singleton.mpr rfl)
theorem adj_back {l : List Nat} (g : GoodW l) {bs : List (List Nat)} (hb : ∀ b ∈ bs, isBar l b = true) {a b : Nat} (ha : a ∈ sds l) (h : b ∈ adjOf bs a) : swp a ∈ adjOf bs (swp b) := by
  have hbL := adj_mem g hb h
  refine (adj_iff g hb (sds_lt g (sds_swp g ha))).mpr ?_
  rw [swp_swp (sds_lt g ha)]
  exact ((adj_iff g hb (sds_lt g hbL)).mp h).symm
section
variable {l : List Nat} (g : GoodW l) {bs : List (List Nat)} (hb : ∀ b ∈ bs, isBar l b = true)
include g hb
theorem Frc.mem {s t : Nat} (hs : s ∈ sds l) (h : Frc (adjOf bs) s t) : t ∈ sds l := h.ind (p := fun x => x ∈ sds l) hs fun _ _ _ k => adj_mem g hb k
theorem Frc.back {s t : Nat} (hs : s ∈ sds l) (h : Frc (adjOf bs) s t) : Frc (adjOf bs) (swp t) (swp s) := by
  have q := h.ind (p := fun x => x ∈ sds l ∧ Frc (adjOf bs) (swp x) (swp s)) ⟨hs, .refl⟩ fun a b hab k => ⟨adj_mem g hb k, (Frc.refl.step (adj_back g hb hab.1 k)).trans hab.2⟩
  exact q.2
/-- both sides of one wall: then the other side of what forces them -/
theorem Frc.torn {s t : Nat} (hs : s ∈ sds l) (a : Frc (adjOf bs) s t) (b : Frc (adjOf bs) s (swp t)) : Frc (adjOf bs) s (swp s) := by
  have q := Frc.back g hb hs b
  rw [swp_swp (sds_lt g (Frc.mem g hb hs a))] at q
  exact a.trans q
end
/-- where one stands who stands on the small sides of p: whether on a side -/
def val (p : Nat → Bool) (s : Nat) : Bool := if s ≤ 90 then !p (s + 32) else p s
theorem val_swp {p : Nat → Bool} {s : Nat} (h : isLt s) : val p (swp s) = !val p s := by
  rcases h with h | h
  · rw [swp_small h]
    unfold val
    rw [if_pos (by omega), if_neg (by omega), show s - 32 + 32 = s by omega]
  · rw [swp_great h]
    unfold val
    rw [if_neg (by omega), if_pos (by omega), Bool.not_not]
def Sat (bs : List (List Nat)) (p : Nat → Bool) : Prop := ∀ x y, [x, y] ∈ bs → ¬ (val p x = true ∧ val p y = true)
section
variable {l : List Nat} (g : GoodW l) {bs : List (List Nat)} (hb : ∀ b ∈ bs, isBar l b = true)
include g hb
theorem Sat.adj {p : Nat → Bool} (h : Sat bs p) {a b : Nat} (ha : val p a = true) (k : b ∈ adjOf bs a) : val p b = true := by
  have hl := sds_lt g (adj_mem g hb k)
  have e : val p (swp b) = false := by
    rcases (adj_iff g hb hl).mp k with z | z
    · have := h _ _ z
      simpa [ha] using this
    · have := h _ _ z
      simpa [ha] using this
  rw [val_swp hl] at e
  simpa using e
theorem Sat.frc {p : Nat → Bool} (h : Sat bs p) {s t : Nat} (ha : val p s = true) (k : Frc (adjOf bs) s t) : val p t = true := k.ind (p := fun x => val p x = true) ha fun _ _ q z => h.adj g hb q z
/-- what s forces, written over a room -/
theorem Sat.over {p : Nat → Bool} (h : Sat bs p) {s : Nat} (hs : s ∈ sds l) (nf : ¬ Frc (adjOf bs) s (swp s)) : ∃ p', Sat bs p' ∧ (∀ t ∈ sds l, Frc (adjOf bs) s t → val p' t = true) ∧ ∀ t ∈ sds l, ¬ Frc (adjOf bs) s (swp t) → val p t = true → val p' t = true := by
  classical
  let p' : Nat → Bool := fun c => if Frc (adjOf bs) s c then true else if Frc (adjOf bs) s (c - 32) then false else p c
  have cons : ∀ t, Frc (adjOf bs) s t → ¬ Frc (adjOf bs) s (swp t) := fun t a b => nf (Frc.torn g hb hs a b)
  have ev : ∀ t ∈ sds l, val p' t = if Frc (adjOf bs) s t then true else if Frc (adjOf bs) s (swp t) then false else val p t := fun t ht => by
    rcases sds_lt g ht with z | z
    · have e1 : val p' t = p' t := by unfold val; rw [if_neg (by omega)]
      have e2 : val p t = p t := by unfold val; rw [if_neg (by omega)]
      rw [e1, e2, swp_small z]
    · have e1 : val p' t = !p' (t + 32) := by unfold val; rw [if_pos (by omega)]
      have e2 : val p t = !p (t + 32) := by unfold val; rw [if_pos (by omega)]
      rw [e1, e2]
      have hsw : swp t = t + 32 := swp_great z
      show (!(if Frc (adjOf bs) s (t + 32) then true else if Frc (adjOf bs) s (t + 32 - 32) then false else p (t + 32))) = _
      rw [show t + 32 - 32 = t by omega, ← hsw]
      by_cases a : Frc (adjOf bs) s t
      · rw [if_neg (cons t a), if_pos a, if_pos a]
        rfl
      · rw [if_neg a, if_neg a]
        by_cases b : Frc (adjOf bs) s (swp t)
        · rw [if_pos b, if_pos b]
          rfl
        · rw [if_neg b, if_neg b]
  refine ⟨p', fun x y hxy => ?_, fun t ht a => by rw [ev t ht, if_pos a], fun t ht a b => ?_⟩
  · rintro ⟨vx, vy⟩
    obtain ⟨x', y', e, hx, hy, _⟩ := bar_two (hb _ hxy)
    obtain ⟨rfl, rfl⟩ : x = x' ∧ y = y' := by simpa using e
    have kx : swp y ∈ adjOf bs x := (adj_iff g hb (sds_lt g (sds_swp g hy))).mpr (by rw [swp_swp (sds_lt g hy)]; exact .inl hxy)
    have ky : swp x ∈ adjOf bs y := (adj_iff g hb (sds_lt g (sds_swp g hx))).mpr (by rw [swp_swp (sds_lt g hx)]; exact .inr hxy)
    rw [ev x hx] at vx
    rw [ev y hy] at vy
    by_cases a : Frc (adjOf bs) s x
    · have q := a.step kx
      by_cases b : Frc (adjOf bs) s y
      · exact cons y b q
      · rw [if_neg b, if_pos q] at vy
        cases vy
    · rw [if_neg a] at vx
      by_cases a2 : Frc (adjOf bs) s (swp x)
      · rw [if_pos a2] at vx
        cases vx
      · rw [if_neg a2] at vx
        by_cases b : Frc (adjOf bs) s y
        · exact a2 (b.step ky)
        · rw [if_neg b] at vy
          by_cases b2 : Frc (adjOf bs) s (swp y)
          · rw [if_pos b2] at vy
            cases vy
          · rw [if_neg b2] at vy
            exact h x y hxy ⟨vx, vy⟩
  · rw [ev t ht]
    by_cases c : Frc (adjOf bs) s t
    · rw [if_pos c]
    · rw [if_neg c, if_neg a]
      exact b
/-- a hall of which no side forces its other one has a room -/
theorem sat_of (nf : ∀ s ∈ sds l, ¬ Frc (adjOf bs) s (swp s)) : ∃ p, Sat bs p := by
  classical
  have go : ∀ w : List Nat, (∀ c ∈ w, c ∈ l) → ∃ A : Nat → Prop, (∀ x, A x → x ∈ sds l) ∧ (∀ x y, A x → y ∈ adjOf bs x → A y) ∧ (∀ x, A x → ¬ A (swp x)) ∧ ∀ c ∈ w, A c ∨ A (swp c) := by
    intro w
    induction w with
    | nil => exact fun _ => ⟨fun _ => False, fun _ h => h.elim, fun _ _ h => h.elim, fun _ h => h.elim, fun _ h => absurd h (by simp)⟩
    | cons c r ih =>
      intro hw
      obtain ⟨A, a1, a2, a3, a4⟩ := ih fun d hd => hw d (List.mem_cons_of_mem _ hd)
      have hc : c ∈ sds l := sds_of_small (hw c (List.mem_cons_self ..))
      by_cases hd : A c ∨ A (swp c)
      · refine ⟨A, a1, a2, a3, fun d hd2 => ?_⟩
        rcases List.mem_cons.mp hd2 with e | e
        · rw [e]; exact hd
        · exact a4 d e
      · have a2' : ∀ x y, A x → Frc (adjOf bs) x y → A y := fun x y hx k => k.ind (p := A) hx fun _ _ q z => a2 _ _ q z
        refine ⟨fun x => A x ∨ Frc (adjOf bs) c x, fun x h => h.elim (a1 x) fun k => Frc.mem g hb hc k, fun x y h k => h.imp (fun h => a2 x y h k) fun h => h.step k, fun x h h2 => ?_, fun d hd2 => ?_⟩
        · rcases h with h | h
          · rcases h2 with h2 | h2
            · exact a3 x h h2
            · have q := Frc.back g hb hc h2
              rw [swp_swp (sds_lt g (a1 x h))] at q
              exact hd (.inr (a2' x _ h q))
          · rcases h2 with h2 | h2
            · have q := Frc.back g hb hc h
              exact hd (.inr (a2' _ _ h2 q))
            · exact nf c hc (Frc.torn g hb hc h h2)
        · rcases List.mem_cons.mp hd2 with e | e
          · rw [e]; exact .inl (.inr .refl)
          · exact (a4 d e).imp .inl .inl
  obtain ⟨A, a1, a2, a3, a4⟩ := go l fun _ h => h
  have ev : ∀ s ∈ sds l, val (fun c => decide (A c)) s = true → A s := fun s hs v => by
    rcases sds_shape g hs with z | z
    · unfold val at v
      rw [if_neg (by omega)] at v
      exact of_decide_eq_true v
    · unfold val at v
      rw [if_pos (by omega)] at v
      have n : ¬ A (s + 32) := by simpa using v
      rcases a4 _ z.2.2 with q | q
      · exact absurd q n
      · rw [swp_small (by omega), show s + 32 - 32 = s by omega] at q
        exact q
  refine ⟨fun c => decide (A c), fun x y hxy => ?_⟩
  rintro ⟨vx, vy⟩
  obtain ⟨x', y', e, hx, hy, _⟩ := bar_two (hb _ hxy)
  obtain ⟨rfl, rfl⟩ : x = x' ∧ y = y' := by simpa using e
  have kx : swp y ∈ adjOf bs x := (adj_iff g hb (sds_lt g (sds_swp g hy))).mpr (by rw [swp_swp (sds_lt g hy)]; exact .inl hxy)
  exact a3 y (ev y hy vy) (a2 x _ (ev x hx vx) kx)
/-- a side is in some room just where it doesn't force its other one, if there is a room -/
theorem fix_iff {p0 : Nat → Bool} (h0 : Sat bs p0) {s : Nat} (hs : s ∈ sds l) : Frc (adjOf bs) s (swp s) ↔ ∀ p, Sat bs p → val p s = false := by
  constructor
  · intro k p hp
    cases hv : val p s with
    | false => rfl
    | true =>
      have q := hp.frc g hb hv k
      rw [val_swp (sds_lt g hs), hv] at q
      cases q
  · intro h
    refine Classical.byContradiction fun nf => ?_
    obtain ⟨p', hp, k, _⟩ := h0.over g hb hs nf
    have q := h p' hp
    rw [k s hs .refl] at q
    cases q
/-- two sides go together in all rooms just where they force one another, if no side forces its other one -/
theorem alike_iff (nf : ∀ s ∈ sds l, ¬ Frc (adjOf bs) s (swp s)) {s t : Nat} (hs : s ∈ sds l) (ht : t ∈ sds l) : (Frc (adjOf bs) s t ∧ Frc (adjOf bs) t s) ↔ ∀ p, Sat bs p → val p s = val p t := by
  have one : ∀ {a b : Nat}, a ∈ sds l → b ∈ sds l → (∀ p, Sat bs p → val p a = true → val p b = true) → Frc (adjOf bs) a b := fun {a b} ha hb2 h => by
    refine Classical.byContradiction fun n => ?_
    obtain ⟨p0, h0⟩ := sat_of g hb nf
    obtain ⟨p1, h1, k1, _⟩ := h0.over g hb ha (nf a ha)
    have hbs := sds_swp g hb2
    obtain ⟨p2, h2, k2, k3⟩ := h1.over g hb hbs (nf _ hbs)
    have va : val p2 a = true := k3 a ha (fun z => n (by
      have q := Frc.back g hb hbs z
      rw [swp_swp (sds_lt g ha), swp_swp (sds_lt g hb2)] at q
      exact q)) (k1 a ha .refl)
    have vb := h p2 h2 va
    have vb2 := k2 _ hbs .refl
    rw [val_swp (sds_lt g hb2), vb] at vb2
    cases vb2
  constructor
  · rintro ⟨a, b⟩ p hp
    cases hv : val p s with
    | true => exact (hp.frc g hb hv a).symm
    | false =>
      cases hw : val p t with
      | false => rfl
      | true =>
        have := hp.frc g hb hw b
        rw [hv] at this
        cases this
  · exact fun h => ⟨one hs ht fun p hp v => (h p hp).symm.trans v, one ht hs fun p hp v => (h p hp).trans v⟩
end
end NC
namespace NC
open PySem PySem.Spec PyProof.Rows L2
def rmOf (l : List Nat) (p : Nat → Bool) : List Nat := l.map fun c => if p c then c else upc c
def allT (l : List Nat) : Nat → List (List Nat)
  | 0 => [[]]
  | k + 1 => (allT l k).flatMap fun r => [r ++ [upc (l.getD k 0)], r ++ [l.getD k 0]]
def inR (b r : List Nat) : Bool := b.all fun s => decide (s ∈ r)
def rms (l : List Nat) (bs : List (List Nat)) : List (List Nat) := (allT l l.length).filter fun r => !bs.any fun b => inR b r
theorem allT_len (l : List Nat) : ∀ k, (allT l k).length = 2 ^ k
  | 0 => rfl
  | k + 1 => by
    have h : ∀ xs : List (List Nat), (xs.flatMap fun r => [r ++ [upc (l.getD k 0)], r ++ [l.getD k 0]]).length = 2 * xs.length := fun xs => by
      induction xs with
      | nil => rfl
      | cons x r ih =>
        have e : (x :: r).length = r.length + 1 := rfl
        rw [List.flatMap_cons, List.length_append, ih, e]
        show 2 + 2 * r.length = _
        omega
    show ((allT l k).flatMap _).length = _
    rw [h, allT_len l k, Nat.pow_succ, Nat.mul_comm]
theorem allT_mem {l : List Nat} (nd : l.Nodup) : ∀ {k : Nat}, k ≤ l.length → ∀ r, r ∈ allT l k ↔ ∃ p, r = rmOf (l.take k) p
  | 0, _, r => by
    show r ∈ [[]] ↔ _
    rw [List.mem_singleton]
    exact ⟨fun e => ⟨fun _ => true, by rw [e]; simp [rmOf]⟩, fun ⟨p, e⟩ => by rw [e]; simp [rmOf]⟩
  | k + 1, hk, r => by
    have hkl : k < l.length := hk
    have ec : l.getD k 0 = l[k] := by simp [List.getD, hkl]
    have et : l.take (k + 1) = l.take k ++ [l[k]] := by rw [List.take_add_one, List.getElem?_eq_getElem hkl]; rfl
    have hn : l[k] ∉ l.take k := take_new nd (List.getElem?_eq_getElem hkl)
    show r ∈ (allT l k).flatMap _ ↔ _
    rw [List.mem_flatMap, ec, et]
    constructor
    · rintro ⟨q, hq, hr⟩
      obtain ⟨p, rfl⟩ := (allT_mem nd (Nat.le_of_lt hkl) q).mp hq
      have same : ∀ b : Bool, rmOf (l.take k) (fun x => if x = l[k] then b else p x) = rmOf (l.take k) p := fun b => List.map_congr_left fun c hc => by
        have : c ≠ l[k] := fun e => hn (by rw [← e]; exact hc)
        show (if (if c = l[k] then b else p c) = true then c else upc c) = _
        rw [if_neg this]
      simp only [List.mem_cons, List.not_mem_nil, or_false] at hr
      rcases hr with rfl | rfl
      · refine ⟨fun x => if x = l[k] then false else p x, ?_⟩
        show _ = (l.take k ++ [l[k]]).map _
        rw [List.map_append]
        show _ = rmOf (l.take k) _ ++ _
        rw [same false]
        simp
      · refine ⟨fun x => if x = l[k] then true else p x, ?_⟩
        show _ = (l.take k ++ [l[k]]).map _
        rw [List.map_append]
        show _ = rmOf (l.take k) _ ++ _
        rw [same true]
        simp
    · rintro ⟨p, rfl⟩
      refine ⟨rmOf (l.take k) p, (allT_mem nd (Nat.le_of_lt hkl) _).mpr ⟨p, rfl⟩, ?_⟩
      have e : rmOf (l.take k ++ [l[k]]) p = rmOf (l.take k) p ++ [if p l[k] then l[k] else upc l[k]] := by
        unfold rmOf
        rw [List.map_append]
        rfl
      rw [e]
      by_cases h : p l[k] = true
      · rw [if_pos h]; simp
      · rw [if_neg h]; simp
theorem rm_mem {l : List Nat} (g : GoodW l) {p : Nat → Bool} {s : Nat} (hs : s ∈ sds l) : s ∈ rmOf l p ↔ val p s = true := by
  unfold rmOf
  rw [List.mem_map]
  rcases sds_shape g hs with z | z
  · have ev : val p s = p s := by unfold val; rw [if_neg (by omega)]
    rw [ev]
    constructor
    · rintro ⟨c, hc, e⟩
      have h1 := g.sm c hc
      by_cases h : p c = true
      · rw [if_pos h] at e
        rw [← e]; exact h
      · rw [if_neg h, upc_small h1] at e
        omega
    · intro h
      exact ⟨s, z.2.2, by rw [if_pos h]⟩
  · have ev : val p s = !p (s + 32) := by unfold val; rw [if_pos (by omega)]
    rw [ev]
    constructor
    · rintro ⟨c, hc, e⟩
      have h1 := g.sm c hc
      by_cases h : p c = true
      · rw [if_pos h] at e
        omega
      · rw [if_neg h, upc_small h1] at e
        rw [show s + 32 = c by omega]
        simpa using h
    · intro h
      refine ⟨s + 32, z.2.2, ?_⟩
      rw [if_neg (by simpa using h), upc_small (by omega)]
      omega
theorem rm_asc {l : List Nat} (g : GoodW l) {p : Nat → Bool} {s : Nat} (hs : s ∈ rmOf l p) : s ∈ sds l := by
  obtain ⟨c, hc, e⟩ := List.mem_map.mp hs
  by_cases h : p c = true
  · rw [if_pos h] at e
    rw [← e]; exact sds_of_small hc
  · rw [if_neg h, upc_small (g.sm c hc)] at e
    rw [← e]; exact sds_of_great g hc
theorem rms_mem {l : List Nat} (g : GoodW l) {bs : List (List Nat)} (hb : ∀ b ∈ bs, isBar l b = true) (r : List Nat) : r ∈ rms l bs ↔ ∃ p, r = rmOf l p ∧ Sat bs p := by
  have key : ∀ p, (!bs.any fun b => inR b (rmOf l p)) = true ↔ Sat bs p := fun p => by
    rw [Bool.not_eq_true', List.any_eq_false]
    constructor
    · intro h x y hxy
      rintro ⟨vx, vy⟩
      obtain ⟨x', y', e, hx, hy, _⟩ := bar_two (hb _ hxy)
      obtain ⟨rfl, rfl⟩ : x = x' ∧ y = y' := by simpa using e
      refine h _ hxy ?_
      simp [inR, (rm_mem g hx).mpr vx, (rm_mem g hy).mpr vy]
    · intro h b hbb hr
      obtain ⟨x, y, rfl, hx, hy, _⟩ := bar_two (hb _ hbb)
      simp [inR] at hr
      exact h x y hbb ⟨(rm_mem g hx).mp hr.1, (rm_mem g hy).mp hr.2⟩
  unfold rms
  rw [List.mem_filter, allT_mem g.nd (Nat.le_refl _), List.take_length]
  constructor
  · rintro ⟨⟨p, rfl⟩, h⟩
    exact ⟨p, rfl, (key p).mp h⟩
  · rintro ⟨p, rfl, h⟩
    exact ⟨⟨p, rfl⟩, (key p).mpr h⟩
inductive Vd
  | ok
  | fixed (s : Nat)
  | alike (s t : Nat)
def vdOf (L : List Nat) (fx : Nat → Bool) (al : Nat → Nat → Bool) : Vd := match L.find? fx with
  | some s => .fixed s
  | none => match L.findSome? fun s => (L.find? (al s)).map fun t => (s, t) with
    | some p => .alike p.1 p.2
    | none => .ok
theorem find_congr {α : Type} {L : List α} {p q : α → Bool} (h : ∀ x ∈ L, p x = q x) : L.find? p = L.find? q := by
  induction L with
  | nil => rfl
  | cons x r ih =>
    rw [List.find?_cons, List.find?_cons, h x (List.mem_cons_self ..), ih fun y hy => h y (List.mem_cons_of_mem _ hy)]
theorem findS_congr {α β : Type} {L : List α} {p q : α → Option β} (h : ∀ x ∈ L, p x = q x) : L.findSome? p = L.findSome? q := by
  induction L with
  | nil => rfl
  | cons x r ih =>
    rw [List.findSome?_cons, List.findSome?_cons, h x (List.mem_cons_self ..), ih fun y hy => h y (List.mem_cons_of_mem _ hy)]
theorem find_at {α : Type} : ∀ {L : List α} {p : α → Bool} {i : Nat} {s : α}, L[i]? = some s → (∀ j t, j < i → L[j]? = some t → p t = false) → p s = true → L.find? p = some s
  | [], p, i, s, h, _, _ => by simp at h
  | x :: r, p, 0, s, h, _, hs => by
    cases h
    rw [List.find?_cons, hs]
  | x :: r, p, i + 1, s, h, hn, hs => by
    rw [List.find?_cons, hn 0 x (Nat.succ_pos _) rfl]
    exact find_at (L := r) (i := i) h (fun j t hj ht => hn (j + 1) t (by omega) ht) hs
theorem findS_at {α β : Type} : ∀ {L : List α} {p : α → Option β} {i : Nat} {s : α} {v : β}, L[i]? = some s → (∀ j t, j < i → L[j]? = some t → p t = none) → p s = some v → L.findSome? p = some v
  | [], p, i, s, v, h, _, _ => by simp at h
  | x :: r, p, 0, s, v, h, _, hs => by
    cases h
    rw [List.findSome?_cons, hs]
  | x :: r, p, i + 1, s, v, h, hn, hs => by
    rw [List.findSome?_cons, hn 0 x (Nat.succ_pos _) rfl]
    exact findS_at (L := r) (i := i) h (fun j t hj ht => hn (j + 1) t (by omega) ht) hs
theorem find_no {α : Type} {L : List α} {p : α → Bool} (h : ∀ j t, j < L.length → L[j]? = some t → p t = false) : L.find? p = none := List.find?_eq_none.mpr fun x hx => by
  obtain ⟨j, hj, e⟩ := List.getElem_of_mem hx
  rw [h j x hj (by rw [List.getElem?_eq_getElem hj, e])]
  decide
theorem findS_no {α β : Type} {L : List α} {p : α → Option β} (h : ∀ j t, j < L.length → L[j]? = some t → p t = none) : L.findSome? p = none := List.findSome?_eq_none_iff.mpr fun x hx => by
  obtain ⟨j, hj, e⟩ := List.getElem_of_mem hx
  exact h j x hj (by rw [List.getElem?_eq_getElem hj, e])
/-- by what forces what: fo s are the sides that s forces -/
def fxP (fo : Nat → List Nat) (s : Nat) : Bool := decide (swp s ∈ fo s)
def alP (fo : Nat → List Nat) (s m : Nat) : Bool := decide (m ∈ fo s) && (decide (m ≠ s) && decide (s ∈ fo m))
/-- by the rooms; fo only where there is none -/
def fxL (l : List Nat) (bs : List (List Nat)) (fo : Nat → List Nat) (s : Nat) : Bool := if rms l bs = [] then decide (swp s ∈ fo s) else !(rms l bs).any fun r => decide (s ∈ r)
def alL (l : List Nat) (bs : List (List Nat)) (s t : Nat) : Bool := decide (lwc s ≠ lwc t) && (rms l bs).all fun r => decide (decide (s ∈ r) = decide (t ∈ r))
theorem same_wall {l : List Nat} (g : GoodW l) {s t : Nat} (hs : s ∈ sds l) (ht : t ∈ sds l) (e : lwc s = lwc t) : t = s ∨ t = swp s := by
  rcases sds_lt g hs with a | a <;> rcases sds_lt g ht with b | b <;> unfold lwc at e
  · rw [if_neg (by omega), if_neg (by omega)] at e
    exact .inl e.symm
  · rw [if_neg (by omega), if_pos b] at e
    rw [swp_small a]
    exact .inr (by omega)
  · rw [if_pos a, if_neg (by omega)] at e
    rw [swp_great a]
    exact .inr e.symm
  · rw [if_pos a, if_pos b] at e
    exact .inl (by omega)
theorem vd_same {l : List Nat} (g : GoodW l) {bs : List (List Nat)} (hb : ∀ b ∈ bs, isBar l b = true) {fo fo' : Nat → List Nat} (hf : ∀ s ∈ sds l, ∀ t, t ∈ fo s ↔ Frc (adjOf bs) s t) (hf' : ∀ s ∈ sds l, ∀ t, t ∈ fo' s ↔ Frc (adjOf bs) s t) :
    vdOf (sds l) (fxP fo) (alP fo) = vdOf (sds l) (fxL l bs fo') (alL l bs) := by
  have mr := rms_mem g hb
  have ne : ∀ {p0 : Nat → Bool}, Sat bs p0 → rms l bs ≠ [] := fun {p0} h0 z => by
    have := (mr _).mpr ⟨p0, rfl, h0⟩
    rw [z] at this
    cases this
  have fx : ∀ s ∈ sds l, fxP fo s = fxL l bs fo' s := fun s hs => by
    unfold fxP fxL
    rw [Bool.eq_iff_iff, decide_eq_true_eq, hf s hs]
    by_cases hr : rms l bs = []
    · rw [if_pos hr, decide_eq_true_eq, hf' s hs]
    · rw [if_neg hr, Bool.not_eq_true', List.any_eq_false]
      obtain ⟨r0, hr0⟩ := List.exists_mem_of_ne_nil _ hr
      obtain ⟨p0, _, h0⟩ := (mr r0).mp hr0
      rw [fix_iff g hb h0 hs]
      constructor
      · intro h r hrm hd
        obtain ⟨p, rfl, hp⟩ := (mr r).mp hrm
        have := (rm_mem g hs).mp (of_decide_eq_true hd)
        rw [h p hp] at this
        cases this
      · intro h p hp
        cases hv : val p s with
        | false => rfl
        | true => exact absurd (decide_eq_true ((rm_mem g hs).mpr hv)) (h _ ((mr _).mpr ⟨p, rfl, hp⟩))
  unfold vdOf
  rw [find_congr fx]
  cases h1 : (sds l).find? (fxL l bs fo') with
  | some s => rfl
  | none =>
    have nf : ∀ s ∈ sds l, ¬ Frc (adjOf bs) s (swp s) := fun s hs k => by
      have := List.find?_eq_none.mp h1 s hs
      rw [← fx s hs] at this
      exact this (decide_eq_true ((hf s hs _).mpr k))
    have al : ∀ s ∈ sds l, ∀ t ∈ sds l, alP fo s t = alL l bs s t := fun s hs t ht => by
      unfold alP alL
      rw [Bool.eq_iff_iff, Bool.and_eq_true, Bool.and_eq_true, Bool.and_eq_true, decide_eq_true_eq, decide_eq_true_eq, decide_eq_true_eq, decide_eq_true_eq, List.all_eq_true, hf s hs, hf t ht]
      constructor
      · rintro ⟨a, b, c⟩
        refine ⟨fun e => ?_, fun r hr => ?_⟩
        · rcases same_wall g hs ht e with z | z
          · exact b z
          · rw [z] at a
            exact nf s hs a
        · obtain ⟨p, rfl, hp⟩ := (mr r).mp hr
          have q := (alike_iff g hb nf hs ht).mp ⟨a, c⟩ p hp
          have e1 : decide (s ∈ rmOf l p) = val p s := by rw [Bool.eq_iff_iff, decide_eq_true_eq]; exact rm_mem g hs
          have e2 : decide (t ∈ rmOf l p) = val p t := by rw [Bool.eq_iff_iff, decide_eq_true_eq]; exact rm_mem g ht
          rw [e1, e2, q]
          simp
      · rintro ⟨a, b⟩
        have q := (alike_iff g hb nf hs ht).mpr fun p hp => by
          have z := of_decide_eq_true (b _ ((mr _).mpr ⟨p, rfl, hp⟩))
          have e1 : decide (s ∈ rmOf l p) = val p s := by rw [Bool.eq_iff_iff, decide_eq_true_eq]; exact rm_mem g hs
          have e2 : decide (t ∈ rmOf l p) = val p t := by rw [Bool.eq_iff_iff, decide_eq_true_eq]; exact rm_mem g ht
          rw [e1, e2] at z
          exact z
        exact ⟨q.1, fun e => a (by rw [e]), q.2⟩
    rw [findS_congr fun s hs => by rw [find_congr fun t ht => al s hs t ht]]
end NC
namespace NC
open PySem PySem.Spec PyProof.Rows L2
abbrev sChkFix : Stmt := topS 31
abbrev sChkAl : Stmt := topS 32
theorem scChkFix : FnScope ["forced_by", "side"] ["forced_by"] (defScope sChkFix) := ⟨rfl, rfl, rfl, by decide +kernel, rfl, by decide +kernel, by decide +kernel⟩
theorem scChkAl : FnScope ["forced_by", "side", "met"] ["forced_by"] (defScope sChkAl) := ⟨rfl, rfl, rfl, by decide +kernel, rfl, by decide +kernel, by decide +kernel⟩
structure XC2 (K : PySem.W.Frag) (mg : Str → Option Value) (C fI : Addr) (fd : FuncData) : Prop where
  gC : mg "Alike" = some (.ref C)
  O : OexC K C
  hw : PySem.W.findIn K (.ref C) "word" = some none
  h1 : PySem.W.findIn K (.ref C) "one" = some none
  h2 : PySem.W.findIn K (.ref C) "other" = some none
  iC : PySem.W.findIn K (.ref C) "__init__" = some (some (.ref fI))
  tI : PySem.W.typeIn K (.ref fI) = some (.type "function")
  F : Fun K "__init__" "Alike.__init__" sALinit fI fd
  b : Binds K fd ["self", "one", "other"] []
theorem mk2 {K : PySem.W.Frag} {C : Addr} (hO : OexC K C) (hw : PySem.W.findIn K (.ref C) "word" = some none) (h1 : PySem.W.findIn K (.ref C) "one" = some none) (h2 : PySem.W.findIn K (.ref C) "other" = some none) {H1 : Hp} {v u : V} {Q : XK}
    (q : ∀ d H', Same H1 H' → H1 d = none → H' d = some (.xd [("other", u), ("one", v), ("word", .str "alike")]) → Q (.ref C) (some d) H') :
    ∀ a, H1 a = none → sp2 K (.ref a :: ([v, u] ++ [])) (upd H1 a (exo a C none))
      (fun z H2 => z = .non ∧ ∃ (d : Addr) (fs : List (Str × V)), H2 a = some (exo a C (some d)) ∧ H2 d = some (exd d fs) ∧ H1 d = none ∧ Q (.ref C) (some d) (upd (del H2 a) d (.xd fs))) (fun _ _ _ => False) := by
  intro a na
  refine ⟨a, C, v, u, rfl, hO, hw, h1, h2, upd_same, fun dx H' n1 n2 k e1 e2 => ?_⟩
  have hd : H1 dx = none := by
    rw [upd_ne n2] at n1
    exact n1
  refine ⟨rfl, dx, _, e1, e2, hd, q dx _ (fun b o hb => ?_) hd upd_same⟩
  have b1 : b ≠ dx := ne_of_none hb hd
  have b2 : b ≠ a := ne_of_none hb na
  rw [upd_ne b1, del_ne b2, k b b1 b2, upd_ne b2]
  exact hb
theorem foK_keys (L : List Nat) (fo : Nat → List Nat) : (foK L fo).map (·.1) = (L.map sg).map Sum.inr := by
  unfold foK
  rw [List.map_map, List.map_map]
  rfl
theorem foK_get {H : Hp} {L : List Nat} {fo : Nat → List Nat} {d : Addr} {s : Nat} (e : H d = some (.dK (foK L fo))) (h : s ∈ L) : DGet H d (.str (sg s)) (some (.str (tx (fo s)))) := by
  rw [← foK_val (fo := fo) h]
  exact DGet.k (k := Sum.inr (sg s)) e
theorem FoOk.mem {l : List Nat} (g : GoodW l) {adj : Nat → List Nat} {L : List Nat} {fo : Nat → List Nat} (h : FoOk l adj L fo) {s c : Nat} (hs : s ∈ L) (hc : c ∈ fo s) : c ∈ sds l := by
  obtain ⟨rs, _, _, e⟩ := h s hs
  rw [e] at hc
  exact (byW_mem g hc).1
theorem FoOk.len {l : List Nat} (g : GoodW l) {adj : Nat → List Nat} {L : List Nat} {fo : Nat → List Nat} (h : FoOk l adj L fo) {s : Nat} (hs : s ∈ L) : (fo s).length ≤ 24 := by
  obtain ⟨rs, _, _, e⟩ := h s hs
  rw [e]
  have h1 := byW_len l (ahK rs)
  have h2 := g.hi
  omega
theorem kys_frc {L : List Nat} {adj : Nat → List Nat} {one : Nat} {rs : List (Nat × Option Nat)} (R : RsOk L adj one rs) : ∀ (i s : Nat) (p : Option Nat), rs[i]? = some (s, p) → Frc adj one s := fun i => by
  induction i using Nat.strongRecOn with
  | ind i ih =>
    intro s p hi
    rcases R.par i s p hi with ⟨rfl, rfl⟩ | ⟨c, j, q, rfl, hj, hrj, hadj⟩
    · obtain ⟨r, e⟩ := R.hd
      rw [e] at hi
      cases hi
      exact .refl
    · exact (ih j hj c q hrj).step hadj
theorem byW_of {l : List Nat} (g : GoodW l) {kvs : List (Key × V)} {t : Nat} (h : t ∈ sds l) (k : inK kvs t = true) : t ∈ byW l kvs := by
  rcases sds_shape g h with z | z
  · exact List.mem_flatMap.mpr ⟨t, z.2.2, List.mem_filter.mpr ⟨by simp, k⟩⟩
  · refine List.mem_flatMap.mpr ⟨t + 32, z.2.2, List.mem_filter.mpr ⟨?_, k⟩⟩
    rw [swp_small (by omega), show t + 32 - 32 = t by omega]
    simp
theorem FoOk.iff {l : List Nat} (g : GoodW l) {bs : List (List Nat)} (hb : ∀ b ∈ bs, isBar l b = true) {fo : Nat → List Nat} (h : FoOk l (adjOf bs) (sds l) fo) : ∀ s ∈ sds l, ∀ t, t ∈ fo s ↔ Frc (adjOf bs) s t := fun s hs t => by
  obtain ⟨rs, R, cl, e⟩ := h s hs
  rw [e]
  constructor
  · intro ht
    obtain ⟨_, hk⟩ := byW_mem g ht
    have hm : t ∈ kys rs := by
      refine Classical.byContradiction fun z => ?_
      unfold inK at hk
      rw [ahK_no z] at hk
      cases hk
    obtain ⟨i, p, hi, _⟩ := ahK_some hm
    exact kys_frc R i t p hi
  · rintro ⟨n, w⟩
    have h0 : s ∈ kys rs := by
      obtain ⟨r, e⟩ := R.hd
      rw [e]
      exact List.mem_cons_self ..
    have hm := reach_in h0 cl w
    obtain ⟨i, p, _, ev⟩ := ahK_some hm
    exact byW_of g (R.sub t hm) (by unfold inK; rw [ev]; rfl)
theorem two_nd : ∀ w : List Nat, (∀ c ∈ w, 97 ≤ c ∧ c ≤ 122) → w.Nodup → (w.flatMap fun c => [swp c, c]).Nodup
  | [], _, _ => by simp
  | c :: r, hs, hn => by
    obtain ⟨n1, n2⟩ := List.nodup_cons.mp hn
    have hc := hs c (List.mem_cons_self ..)
    have ih := two_nd r (fun d hd => hs d (List.mem_cons_of_mem _ hd)) n2
    rw [List.flatMap_cons]
    refine List.nodup_append.mpr ⟨?_, ih, fun a ha b hb e => ?_⟩
    · rw [swp_small hc]
      simp
      omega
    · obtain ⟨d, hd, hbd⟩ := List.mem_flatMap.mp hb
      have hd2 := hs d (List.mem_cons_of_mem _ hd)
      have ne : d ≠ c := fun z => n1 (by rw [← z]; exact hd)
      rw [swp_small hc] at ha
      rw [swp_small hd2] at hbd
      simp only [List.mem_cons, List.not_mem_nil, or_false] at ha hbd
      omega
theorem byW_nd {l : List Nat} (g : GoodW l) (kvs : List (Key × V)) : (byW l kvs).Nodup := by
  have e : byW l kvs = (l.flatMap fun c => [swp c, c]).filter (inK kvs) := by
    unfold byW
    rw [List.filter_flatMap]
  rw [e]
  exact (two_nd l g.sm g.nd).filter _
theorem sds_rise {l : List Nat} (g : GoodW l) : (sds l).Pairwise (· < ·) := by
  refine List.pairwise_append.mpr ⟨List.pairwise_map.mpr (g.rise.imp_of_mem fun {a b} ha hb h => ?_), g.rise, fun a ha b hb => ?_⟩
  · rw [upc_small (g.sm a ha), upc_small (g.sm b hb)]
    have := g.sm a ha
    omega
  · obtain ⟨c, hc, rfl⟩ := List.mem_map.mp ha
    have := g.sm c hc
    have := g.sm b hb
    rw [upc_small (by omega)]
    omega
theorem pw_sg {L : List Nat} (h : L.Pairwise (· < ·)) : (L.map sg).Pairwise leS := List.pairwise_map.mpr (h.imp fun h => leS_sg (Nat.le_of_lt h))
theorem sorted_sds {l : List Nat} (g : GoodW l) {ys : List Str} (hp : ys.Perm ((sds l).map sg)) (hs : sortedS ys = true) : ys = (sds l).map sg := sortedS_eq hs hp (pw_sg (sds_rise g))
theorem perm_nd : ∀ {a b : List Nat}, a.Nodup → b.Nodup → (∀ x, x ∈ a ↔ x ∈ b) → a.Perm b
  | [], b, _, _, h => by
    cases b with
    | nil => exact .nil
    | cons x r => exact absurd ((h x).mpr (List.mem_cons_self ..)) (by simp)
  | x :: r, b, ha, hb, h => by
    obtain ⟨n1, n2⟩ := List.nodup_cons.mp ha
    have hx : x ∈ b := (h x).mp (List.mem_cons_self ..)
    refine ((perm_nd n2 (hb.erase x) fun y => ?_).cons x).trans (List.perm_cons_erase hx).symm
    rw [hb.mem_erase_iff]
    constructor
    · exact fun hy => ⟨fun e => n1 (by rw [← e]; exact hy), (h y).mp (List.mem_cons_of_mem _ hy)⟩
    · rintro ⟨a, c⟩
      rcases List.mem_cons.mp ((h y).mpr c) with z | z
      · exact absurd z a
      · exact z
theorem sorted_fo {l : List Nat} (g : GoodW l) {adj : Nat → List Nat} {fo : Nat → List Nat} (h : FoOk l adj (sds l) fo) {s : Nat} (hs : s ∈ sds l) {ys : List Str} (hp : ys.Perm ((fo s).map sg)) (hso : sortedS ys = true) : ys = ((sds l).filter fun m => decide (m ∈ fo s)).map sg := by
  refine sortedS_eq hso (hp.trans (List.Perm.map _ (perm_nd ?_ ((sds_nd g).filter _) fun x => ?_))) (pw_sg ((sds_rise g).filter _))
  · obtain ⟨rs, _, _, e⟩ := h s hs
    rw [e]
    exact byW_nd g _
  · rw [List.mem_filter, decide_eq_true_eq]
    exact ⟨fun hx => ⟨h.mem g hs hx, hx⟩, fun hx => hx.2⟩
section
variable {P : Program} {w : World} {K : PySem.W.Frag} {mg : Str → Option Value} {base : Heap}
def spChkFix (CF : Addr) : Sp := fun vs H Q E => ∃ l d adj fo, vs = [.ref d] ∧ GoodW l ∧ H d = some (.dK (foK (sds l) fo)) ∧ FoOk l adj (sds l) fo ∧
  match (sds l).find? (fxP fo) with
  | none => ∀ H', Same H H' → Q .non H'
  | some s => ∀ H' x, Same H H' → H x = none → H' x = some (.xd [("side", .str (sg s)), ("word", .str "fixed")]) → E (.ref CF) (some x) H'
set_option maxHeartbeats 1000000 in
theorem ok_chkFix {f fO CF fF CH fH : Addr} {fd fdO fdF fdH : FuncData} {k : Nat} (B : BM mg) (F : Fun K "check_fixed" "check_fixed" sChkFix f fd) (O : DF K mg "other" sOther ["side"] fO fdO)
    (T : HE K mg CH fH fdH) (X : XC K mg "Fixed" "Fixed.__init__" sFXinit "side" CF fF fdF) : FnOk P w K mg base (L2.CX P w) (k + 4) f fd ["forced_by"] (spChkFix CF) := by
  have GO : FnOk P w K mg base CX0 (k + 1) fO fdO ["side"] spOther := ok_other O.F
  have GF : FnOk P w K mg base CX0 (k + 2) fF fdF ["self", "side"] (sp1 K "side" "fixed") := ok_FX T X.F
  refine F.okX scChkFix (fun vs H Q E h => ?_) (fun cdv A outer s H vs Q E hr h => ?_)
  · obtain ⟨l, d, adj, fo, rfl, _⟩ := h
    rfl
  · obtain ⟨l, d, adj, fo, rfl, g, hd, ok, q⟩ := h
    refine ⟨_, pss_one (ps_for (passes_of rfl) rfl (pi_list (pe_callB (call_sortedD rfl) (by rfl) B.sorted (by decide +kernel) (pa_cons (pv 0) pa_nil))) (pg_name (i := 1) scChkFix.nd rfl (.inl rfl))
      (pss_one (ps_if (pt_cmpR op_in_sign (pe_call GO (hr.mono (by omega)) rfl O.g O.F.kp O.b .nil pass0 (pa_cons (pv 1) pa_nil)) (pe_dget (hu_of hr) (pv 0) (pv 1) (fun _ _ => rfl)) (by rfl))
        (pss_one (ps_raise rfl (takes_of rfl rfl rfl rfl) (pmk_oex X.O X.iC X.tI GF hr X.b .nil pass0 (by rfl) X.gC (pa_cons (pv 1) pa_nil)))) pss_nil))), ?_⟩
    refine ⟨_, rfl, d, _, (sds l).map sg, rfl, .inl hd, foK_keys _ _, by rw [List.length_map]; have := sds_len g; omega, fun ys p hp hso np => ⟨p, rfl, ⟨_, SqL.of upd_same⟩, ?_⟩⟩
    obtain rfl := sorted_sds g hp hso
    have wk := walk_list (K := K) (a := p) (xs := ((sds l).map sg).map V.str)
    rw [List.length_map, List.length_map] at wk
    refine for_it wk (fun i σ H' => ∃ y1, σ = [some (.ref d), y1] ∧ Same H H' ∧ H' p = some (.lst (((sds l).map sg).map V.str)) ∧ ∀ j t, j < i → (sds l)[j]? = some t → fxP fo t = false) ⟨_, rfl, same_upd np, upd_same, fun j t h => absurd h (Nat.not_lt_zero _)⟩ (fun i σ H' _ h => by obtain ⟨_, _, _, h, _⟩ := h; exact SqL.of h) ?_ ?_
    · rintro i x σ H1 H2 hi ⟨y1, rfl, sm, ep, no⟩ ⟨rfl, hx⟩
      rw [List.getElem?_map, List.getElem?_map] at hx
      obtain ⟨y, hy, rfl⟩ := Option.map_eq_some_iff.mp hx
      obtain ⟨c, hci, rfl⟩ := Option.map_eq_some_iff.mp hy
      have hc : c ∈ sds l := List.mem_of_getElem? hci
      refine ⟨_, rfl, c, rfl, sds_asc g hc, _, rfl, _, rfl, d, _, rfl, foK_get (sm _ _ hd) hc, swp c, _, rfl, rfl, _, rfl, ite2 (fun t => ?_) (fun t => ?_)⟩
      · have t : decide (swp c ∈ (tx (fo c)).cps.toList) = true := t
        rw [tx_list] at t
        rw [find_at hci no t] at q
        exact ⟨_, rfl, by show 1 ≤ 1000; decide, mk1 X.O X.hw X.hf fun x H4 s4 n4 e4 => q H4 x (sm_trans sm s4) (L2.Same.free sm n4) e4⟩
      · have t : ¬ decide (swp c ∈ (tx (fo c)).cps.toList) = true := t
        rw [tx_list] at t
        refine ⟨_, rfl, sm, ep, fun j u hj hu => ?_⟩
        rcases Nat.lt_or_ge j i with h | h
        · exact no j u h hu
        · obtain rfl : j = i := by omega
          rw [hci] at hu
          cases hu
          exact Bool.eq_false_iff.mpr t
    · rintro σ H1 ⟨y1, rfl, sm, _, no⟩
      rw [find_no no] at q
      exact q H1 sm
def spChkAl (CA : Addr) : Sp := fun vs H Q E => ∃ l d adj fo, vs = [.ref d] ∧ GoodW l ∧ H d = some (.dK (foK (sds l) fo)) ∧ FoOk l adj (sds l) fo ∧
  match (sds l).findSome? fun s => ((sds l).find? (alP fo s)).map fun t => (s, t) with
  | none => ∀ H', Same H H' → Q .non H'
  | some v => ∀ H' x, Same H H' → H x = none → H' x = some (.xd [("other", .str (sg v.2)), ("one", .str (sg v.1)), ("word", .str "alike")]) → E (.ref CA) (some x) H'
set_option maxHeartbeats 1000000 in
theorem ok_chkAl {f CA fA CH fH : Addr} {fd fdA fdH : FuncData} {k : Nat} (B : BM mg) (F : Fun K "check_alike" "check_alike" sChkAl f fd)
    (T : HE K mg CH fH fdH) (X : XC2 K mg CA fA fdA) : FnOk P w K mg base (L2.CX P w) (k + 4) f fd ["forced_by"] (spChkAl CA) := by
  have GA : FnOk P w K mg base CX0 (k + 2) fA fdA ["self", "one", "other"] (sp2 K) := ok_AL T X.F
  refine F.okX scChkAl (fun vs H Q E h => ?_) (fun cdv A outer s H vs Q E hr h => ?_)
  · obtain ⟨l, d, adj, fo, rfl, _⟩ := h
    rfl
  · obtain ⟨l, d, adj, fo, rfl, g, hd, ok, q⟩ := h
    refine ⟨_, pss_one (ps_for (passes_of rfl) rfl (pi_list (pe_callB (call_sortedD rfl) (by rfl) B.sorted (by decide +kernel) (pa_cons (pv 0) pa_nil))) (pg_name (i := 1) scChkAl.nd rfl (.inl rfl))
      (pss_one (ps_for (passes_of rfl) rfl (pi_list (pe_callB (cr_sortedT rfl) (by rfl) B.sorted (by decide +kernel) (pa_cons (pe_dget (hu_of hr) (pv 0) (pv 1) (fun _ _ => rfl)) pa_nil))) (pg_name (i := 2) scChkAl.nd rfl (.inl rfl))
        (pss_one (ps_if (PW.pt (pw_and (pt_cmpR op_ne (pv 2) (pv 1) (nomark _)) (pw_and1 (pt_cmpR op_in_sign (pv 1) (pe_dget (hu_of hr) (pv 0) (pv 2) (fun _ _ => rfl)) (by rfl)))))
          (pss_one (ps_raise rfl (takes_of rfl rfl rfl rfl) (pmk_oex X.O X.iC X.tI GA hr X.b .nil pass0 (by rfl) X.gC (pa_cons (pv 1) (pa_cons (pv 2) pa_nil))))) pss_nil))))), ?_⟩
    refine ⟨_, rfl, d, _, (sds l).map sg, rfl, .inl hd, foK_keys _ _, by rw [List.length_map]; have := sds_len g; omega, fun ys p hp hso np => ⟨p, rfl, ⟨_, SqL.of upd_same⟩, ?_⟩⟩
    obtain rfl := sorted_sds g hp hso
    have wk := walk_list (K := K) (a := p) (xs := ((sds l).map sg).map V.str)
    rw [List.length_map, List.length_map] at wk
    refine for_it wk (fun i σ H' => ∃ y1 y2, σ = [some (.ref d), y1, y2] ∧ Same H H' ∧ H' p = some (.lst (((sds l).map sg).map V.str)) ∧ ∀ j t, j < i → (sds l)[j]? = some t → (sds l).find? (alP fo t) = none) ⟨_, _, rfl, same_upd np, upd_same, fun j t h => absurd h (Nat.not_lt_zero _)⟩ (fun i σ H' _ h => by obtain ⟨_, _, _, _, h, _⟩ := h; exact SqL.of h) ?_ ?_
    · rintro i x σ H1 H2 hi ⟨y1, y2, rfl, sm, ep, no⟩ ⟨rfl, hx⟩
      rw [List.getElem?_map, List.getElem?_map] at hx
      obtain ⟨y, hy, rfl⟩ := Option.map_eq_some_iff.mp hx
      obtain ⟨c, hci, rfl⟩ := Option.map_eq_some_iff.mp hy
      have hc : c ∈ sds l := List.mem_of_getElem? hci
      refine ⟨_, rfl, _, rfl, d, _, rfl, foK_get (sm _ _ hd) hc, tx (fo c), rfl, by rw [tx_len]; have := ok.len g hc; omega, fun zs r hz hzo nr => ⟨r, rfl, ⟨_, SqL.of upd_same⟩, ?_⟩⟩
      rw [sgs_tx] at hz
      obtain rfl := sorted_fo g ok hc hz hzo
      generalize hfl : ((sds l).filter fun m => decide (m ∈ fo c)) = fl at nr ⊢
      have ef : fl.find? (fun m => decide (m ≠ c) && decide (c ∈ fo m)) = (sds l).find? (alP fo c) := by
        rw [← hfl, List.find?_filter]
        congr 1
        funext m
        unfold alP
        by_cases h : m ∈ fo c
        · simp [h]
        · simp [h]
      have flm : ∀ m ∈ fl, m ∈ sds l := fun m hm => by rw [← hfl] at hm; exact (List.mem_filter.mp hm).1
      have wk2 := walk_list (K := K) (a := r) (xs := (fl.map sg).map V.str)
      rw [List.length_map, List.length_map] at wk2
      have npr : p ≠ r := ne_of_none ep nr
      refine for_it wk2 (fun j σ H' => ∃ y2, σ = [some (.ref d), some (.str (sg c)), y2] ∧ Same H H' ∧ H' p = some (.lst (((sds l).map sg).map V.str)) ∧ H' r = some (.lst ((fl.map sg).map V.str)) ∧ ∀ u t, u < j → fl[u]? = some t → (decide (t ≠ c) && decide (c ∈ fo t)) = false) ⟨_, rfl, sm_upd sm nr, by rw [upd_ne npr]; exact ep, upd_same, fun u t h => absurd h (Nat.not_lt_zero _)⟩
        (fun i σ H' _ h => by obtain ⟨_, _, _, _, h, _⟩ := h; exact SqL.of h) ?_ ?_
      · rintro j x σ H3 H4 hj ⟨y2, rfl, sm3, ep3, er3, no2⟩ ⟨rfl, hx⟩
        rw [List.getElem?_map, List.getElem?_map] at hx
        obtain ⟨z, hz2, rfl⟩ := Option.map_eq_some_iff.mp hx
        obtain ⟨m, hmj, rfl⟩ := Option.map_eq_some_iff.mp hz2
        have hmL : m ∈ sds l := flm m (List.mem_of_getElem? hmj)
        have next : (decide (m ≠ c) && decide (c ∈ fo m)) = false → ∀ u t, u < j + 1 → fl[u]? = some t → (decide (t ≠ c) && decide (c ∈ fo t)) = false := fun hmf u t hu ht => by
          rcases Nat.lt_or_ge u j with h | h
          · exact no2 u t h ht
          · obtain rfl : u = j := by omega
            rw [hmj] at ht
            cases ht
            exact hmf
        refine ⟨_, rfl, _, rfl, rfl, _, rfl, ite2 (fun t1 => ?_) (fun t1 => ?_)⟩
        · refine ⟨_, rfl, _, rfl, _, rfl, d, _, rfl, foK_get (sm3 _ _ hd) hmL, c, _, rfl, rfl, _, rfl, ite2 (fun t => ?_) (fun t => ?_)⟩
          · have t : decide (c ∈ (tx (fo m)).cps.toList) = true := t
            rw [tx_list] at t
            have t2 : ¬ sg m = sg c := by simpa using t1
            have t0 : decide (m ≠ c) = true := decide_eq_true fun e => t2 (by rw [e])
            have e1 : fl.find? (fun m => decide (m ≠ c) && decide (c ∈ fo m)) = some m := find_at hmj no2 (by rw [t0, t]; rfl)
            rw [ef] at e1
            rw [findS_at (v := (c, m)) hci (fun j t hj ht => by rw [no j t hj ht]; rfl) (by rw [e1]; rfl)] at q
            exact ⟨_, rfl, _, rfl, by show 2 ≤ 1000; decide, mk2 X.O X.hw X.h1 X.h2 fun x H5 s5 n5 e5 => q H5 x (sm_trans sm3 s5) (L2.Same.free sm3 n5) e5⟩
          · have t : ¬ decide (c ∈ (tx (fo m)).cps.toList) = true := t
            rw [tx_list] at t
            exact ⟨_, rfl, sm3, ep3, er3, next (by rw [Bool.eq_false_iff.mpr t]; simp)⟩
        · have t2 : sg m = sg c := by simpa using t1
          have t0 : decide (m ≠ c) = false := by simpa using sg_inj t2
          exact iteF ⟨_, rfl, sm3, ep3, er3, next (by rw [t0]; rfl)⟩
      · rintro σ H3 ⟨y2, rfl, sm3, ep3, er3, no2⟩
        refine ⟨_, _, rfl, sm3, ep3, fun j u hj hu => ?_⟩
        rcases Nat.lt_or_ge j i with h | h
        · exact no j u h hu
        · obtain rfl : j = i := by omega
          rw [hci] at hu
          cases hu
          rw [← ef]
          exact find_no no2
    · rintro σ H1 ⟨y1, y2, rfl, sm, _, no⟩
      rw [findS_no fun j t hj ht => by rw [no j t hj ht]; rfl] at q
      exact q H1 sm
end
end NC
namespace NC
open PySem PySem.Spec PyProof.Rows L2
theorem first_none {l : List Nat} {bs : List (List Nat)} (h : firstBad l bs = none) : ∀ b ∈ bs, isBar l b = true := fun b hb => by
  obtain ⟨i, hi⟩ := List.getElem?_of_mem hb
  have hl := (List.getElem?_eq_some_iff.mp hi).1
  have q := List.find?_eq_none.mp h i (by simpa using hl)
  unfold badAt at q
  rw [List.getD_eq_getElem?_getD, hi] at q
  simp at q
  exact q.1
/-- all that a hall's making asks for in the text -/
structure Txt8 (K : PySem.W.Frag) (mg : Str → Option Value) (tw : Tok) (fOther fSides fByW fIsW fIsB fCW fCB fCS fSt fRe fAF fCF fCA : Addr) (dOther dSides dByW dIsW dIsB dCW dCB dCS dSt dRe dAF dCF dCA : FuncData)
    (CH iH CB iB CF iF CA iA : Addr) (eH eB eF eA : FuncData) : Prop where
  B : BM mg
  mW : mg "WIDEST" = some (.int 12 tw)
  O : DF K mg "other" sOther ["side"] fOther dOther
  S : DF K mg "sides_of" sSides ["walls"] fSides dSides
  Y : DF K mg "by_walls" sByWalls ["walls", "sides"] fByW dByW
  W : DF K mg "is_walls" sIsWalls ["walls"] fIsW dIsW
  I : DF K mg "is_bar" sIsBar ["walls", "bar"] fIsB dIsB
  cw : DF K mg "check_walls" sChkWalls ["walls"] fCW dCW
  cb : DF K mg "check_bars" sChkBars ["walls", "bars"] fCB dCB
  cs : DF K mg "check_side" sChkSide ["walls", "side"] fCS dCS
  st : DF K mg "straight_from" sStraight ["walls", "bars"] fSt dSt
  re : DF K mg "reached" sReached ["straight", "one"] fRe dRe
  af : DF K mg "all_forced" sAllF ["walls", "bars"] fAF dAF
  cf : DF K mg "check_fixed" sChkFix ["forced_by"] fCF dCF
  ca : DF K mg "check_alike" sChkAl ["forced_by"] fCA dCA
  he : HE K mg CH iH eH
  xb : XC K mg "BadBar" "BadBar.__init__" sBBinit "at" CB iB eB
  xf : XC K mg "Fixed" "Fixed.__init__" sFXinit "side" CF iF eF
  xa : XC2 K mg CA iA eA
end NC
namespace NC
open PySem PySem.Spec PyProof.Rows L2
abbrev sHinit : Stmt := inClass (topS 33) 0
abbrev sHbars : Stmt := inClass (topS 33) 2
theorem scHinit : FnScope ["self", "walls", "bars", "forced_by"] ["self", "walls", "bars"] (defScope sHinit) := ⟨rfl, rfl, rfl, by decide +kernel, rfl, by decide +kernel, by decide +kernel⟩
/-- the class Hall -/
structure HC (K : PySem.W.Frag) (mg : Str → Option Value) (C fi fb : Addr) (di db : FuncData) : Prop where
  gC : mg "Hall" = some (.ref C)
  cl : Cls K C
  mks : Mk K C fi
  F : ∃ dvs, FunD K "__init__" "Hall.__init__" (defArgs sHinit) (defBody sHinit) (defScope sHinit) dvs [] fi di
  b : Binds K di ["self", "walls", "bars"] []
  n1 : NoAttr K C "wall_text"
  n2 : NoAttr K C "bar_list"
  n3 : NoAttr K C "forced_by"
  mb : Meth K C "bars" fb
  Fb : Fun K "bars" "Hall.bars" sHbars fb db
  bb : Binds K db ["self"] []
/-- all but x stays -/
def SmX (x : Addr) (H H' : Hp) : Prop := ∀ b o, b ≠ x → H b = some o → H' b = some o
/-- a hall at x of the walls l, its bars' list at sb -/
structure HallAt (C : Addr) (H : Hp) (x dx sb D : Addr) (l : List Nat) (ys : List Str) (fo : Nat → List Nat) : Prop where
  x : H x = some (.ins C dx [("wall_text", .str (tx l)), ("bar_list", .ref sb), ("forced_by", .ref D)])
  sb : H sb = some (.lst (ys.map V.str))
  D : H D = some (.dK (foK (sds l) fo))
section
variable {P : Program} {w : World} {K : PySem.W.Frag} {mg : Str → Option Value} {base : Heap} {tw : Tok} {fOther fSides fByW fIsW fIsB fCW fCB fCS fSt fRe fAF fCF fCA : Addr} {dOther dSides dByW dIsW dIsB dCW dCB dCS dSt dRe dAF dCF dCA : FuncData}
    {CH iH CB iB CF iF CA iA : Addr} {eH eB eF eA : FuncData} {C fi fb : Addr} {di db : FuncData}
def spHinit (K : PySem.W.Frag) (C CB CF CA : Addr) : Sp := fun vs H Q E => ∃ x dx l a bs, vs = [.ref x, .str (tx l), .ref a] ∧ H x = some (.ins C dx []) ∧ GoodW l ∧ BarsOk bs ∧ bs.length < 64 ∧ SqL K H a ((bs.map tx).map V.str) ∧
  match firstBad l bs with
  | some i => ∀ H' d, Same H H' → H d = none → H' d = some (.xd [("at", .int (i : Nat)), ("word", .str "badbar")]) → E (.ref CB) (some d) H'
  | none => ∀ fo, FoOk l (adjOf bs) (sds l) fo → match vdOf (sds l) (fxP fo) (alP fo) with
    | .fixed s => ∀ H' d, Same H H' → H d = none → H' d = some (.xd [("side", .str (sg s)), ("word", .str "fixed")]) → E (.ref CF) (some d) H'
    | .alike s m => ∀ H' d, Same H H' → H d = none → H' d = some (.xd [("other", .str (sg m)), ("one", .str (sg s)), ("word", .str "alike")]) → E (.ref CA) (some d) H'
    | .ok => ∀ H' sb D ys, SmX x H H' → H sb = none → H D = none → HallAt C H' x dx sb D l ys fo → ys.Perm (bs.map tx) → sortedS ys = true → Q .non H'
set_option maxHeartbeats 1000000 in
theorem ok_Hinit {k : Nat} (Z : HC K mg C fi fb di db) (T : Txt8 K mg tw fOther fSides fByW fIsW fIsB fCW fCB fCS fSt fRe fAF fCF fCA dOther dSides dByW dIsW dIsB dCW dCB dCS dSt dRe dAF dCF dCA CH iH CB iB CF iF CA iA eH eB eF eA) :
    FnOk P w K mg base (L2.CX P w) (k + 5) fi di ["self", "walls", "bars"] (spHinit K C CB CF CA) := by
  have GW := ok_chkWalls (P := P) (w := w) (base := base) (k := k) T.B T.mW T.cw.F T.W
  have GB : FnOk P w K mg base (L2.CX P w) (k + 4) fCB dCB ["walls", "bars"] (spChkBars K CB) := ok_chkBars T.B T.cb.F T.I T.S T.he T.xb
  have GA : FnOk P w K mg base CX0 (k + 3) fAF dAF ["walls", "bars"] (spAllF K) := ok_allF T.B T.af.F T.st T.re T.Y T.S T.O
  have GF : FnOk P w K mg base (L2.CX P w) (k + 4) fCF dCF ["forced_by"] (spChkFix CF) := ok_chkFix T.B T.cf.F T.O T.he T.xf
  have GL : FnOk P w K mg base (L2.CX P w) (k + 4) fCA dCA ["forced_by"] (spChkAl CA) := ok_chkAl T.B T.ca.F T.he T.xa
  obtain ⟨dvs, ZF⟩ := Z.F
  refine ZF.ok scHinit (fun vs H Q E h => ?_) (fun cdv A outer s H vs Q E hr h => ?_)
  · obtain ⟨x, dx, l, a, bs, rfl, _⟩ := h
    rfl
  · obtain ⟨x, dx, l, a, bs, rfl, hx, g, hbs, hbl, hS, q⟩ := h
    have r2 : Room (k + 2) _ := hr.mono (by omega)
    have r3 : Room (k + 3) _ := hr.mono (by omega)
    refine ⟨_, pss_cons (ps_expr (pe_call GW r2 rfl T.cw.g T.cw.F.kp T.cw.b .nil pass0 (pa_cons (pv 1) pa_nil)))
      (pss_cons (ps_expr (pe_call (E := E) GB hr rfl T.cb.g T.cb.F.kp T.cb.b .nil (passes_call (takes_of rfl rfl rfl rfl) (fun _ _ _ _ h => h)) (pa_cons (pv 1) (pa_cons (pv 2) pa_nil))))
      (pss_cons (ps_set (i := 3) scHinit.nd rfl (.inl rfl) (pe_call GA r3 rfl T.af.g T.af.F.kp T.af.b .nil pass0 (pa_cons (pv 1) (pa_cons (pv 2) pa_nil))))
      (pss_cons (ps_expr (pe_call (E := E) GF hr rfl T.cf.g T.cf.F.kp T.cf.b .nil (passes_call (takes_of rfl rfl rfl rfl) (fun _ _ _ _ h => h)) (pa_cons (pv 3) pa_nil)))
      (pss_cons (ps_expr (pe_call (E := E) GL hr rfl T.ca.g T.ca.F.kp T.ca.b .nil (passes_call (takes_of rfl rfl rfl rfl) (fun _ _ _ _ h => h)) (pa_cons (pv 3) pa_nil)))
      (pss_cons (ps_fld (pv 0) (pv 1) rfl)
      (pss_cons (ps_fld (pv 0) (pe_callB cr_sortedS (by rfl) T.B.sorted (by decide +kernel) (pa_cons (pv 2) pa_nil)) rfl)
      (pss_one (ps_fld (pv 0) (pv 3) rfl)))))))), ?_⟩
    refine ⟨_, rfl, l, rfl, g, fun H1 s1 => ⟨_, rfl, _, rfl, l, a, bs, rfl, g, hbs, by omega, .inl (sm_l s1 hS), ?_⟩⟩
    cases fbd : firstBad l bs with
    | some i =>
      rw [fbd] at q
      intro H' d sm nd e
      exact q H' d (sm_trans s1 sm) (L2.Same.free s1 nd) e
    | none =>
      rw [fbd] at q
      have hbar := first_none fbd
      intro H2 s2
      have s12 := sm_trans s1 s2
      refine ⟨_, rfl, _, rfl, l, a, bs, rfl, g, hbar, by omega, .inl (sm_l s12 hS), fun H3 D fo s3 nD eD ok => ?_⟩
      have s13 := sm_trans s12 s3
      have q := q fo ok
      unfold vdOf at q
      refine ⟨_, rfl, l, D, adjOf bs, fo, rfl, g, eD, ok, ?_⟩
      cases h1 : (sds l).find? (fxP fo) with
      | some s0 =>
        rw [h1] at q
        exact fun H' d sm nd e => q H' d (sm_trans s13 sm) (L2.Same.free s13 nd) e
      | none =>
      rw [h1] at q
      intro H4 s4
      have s14 := sm_trans s13 s4
      refine ⟨_, rfl, l, D, adjOf bs, fo, rfl, g, s4 _ _ eD, ok, ?_⟩
      cases h2 : (sds l).findSome? fun s => ((sds l).find? (alP fo s)).map fun t => (s, t) with
      | some v =>
        rw [h2] at q
        exact fun H' d sm nd e => q H' d (sm_trans s14 sm) (L2.Same.free s14 nd) e
      | none =>
      rw [h2] at q
      intro H5 s5
      have s15 := sm_trans s14 s5
      have nxa : ∀ o, Same H H5 → SqL K (upd H5 x o) a ((bs.map tx).map V.str) := fun o sm => by
        have hS5 := sm_l sm hS
        rcases hS5 with (z | ⟨ob, z⟩) | z
        · exact .inl (.inl (by rw [upd_ne (ne_of z (sm _ _ hx) fun e => by cases e)]; exact z))
        · exact .inl (.inr ⟨ob, by rw [upd_ne (ne_of z (sm _ _ hx) fun e => by cases e)]; exact z⟩)
        · exact .inr z
      refine ⟨_, rfl, _, rfl, x, C, dx, _, rfl, s15 _ _ hx, Z.cl, Z.n1, by decide, ?_⟩
      refine ⟨_, rfl, a, bs.map tx, rfl, nxa _ s15, by rw [List.length_map]; exact hbl, fun ys p hp hs np => ?_⟩
      have npx : x ≠ p := ne_of_none upd_same np
      refine ⟨_, rfl, x, C, dx, _, rfl, by rw [upd_ne npx, upd_same], Z.cl, Z.n2, by show 1 < 1000; decide, ?_⟩
      refine ⟨_, rfl, _, rfl, x, C, dx, _, rfl, upd_same, Z.cl, Z.n3, by show 2 < 1000; decide, ?_⟩
      have np5 : H5 p = none := by
        rw [upd_ne (Ne.symm npx)] at np
        exact np
      have eD5 : H5 D = some (.dK (foK (sds l) fo)) := s5 _ _ (s4 _ _ eD)
      have nDx : D ≠ x := ne_of eD5 (s15 _ _ hx) fun z => by cases z
      have nDp : D ≠ p := ne_of_none eD5 np5
      refine q _ p D ys (fun b o hb e => ?_) (L2.Same.free s15 np5) (L2.Same.free s12 nD) ⟨upd_same, ?_, by rw [upd_ne nDx, upd_ne nDx, upd_ne nDp, upd_ne nDx]; exact eD5⟩ hp hs
      · have e5 := s15 _ _ e
        rw [upd_ne hb, upd_ne hb, upd_ne (ne_of_none e5 np5), upd_ne hb]
        exact e5
      · rw [upd_ne (Ne.symm npx), upd_ne (Ne.symm npx), upd_same]
end
end NC
namespace NC
open PySem PySem.Spec PyProof.Rows L2
abbrev sStart : Stmt := topS 79
abbrev sDraw : Stmt := topS 80
abbrev sOf : Stmt := topS 81
abbrev sLetters : Stmt := topS 83
theorem scStart : FnScope ["_law_script", "_law_seed", "_law_cell"] ["_law_script"] (defScope sStart) := ⟨rfl, rfl, rfl, by decide +kernel, rfl, by decide +kernel, by decide +kernel⟩
theorem scDraw : FnScope ["_law_d", "_law_many", "_law_cell", "_law_digit", "_law_mix"] ["_law_d", "_law_many"] (defScope sDraw) := ⟨rfl, rfl, rfl, by decide +kernel, rfl, by decide +kernel, by decide +kernel⟩
theorem scOf : FnScope ["_law_d", "_law_some"] ["_law_d", "_law_some"] (defScope sOf) := ⟨rfl, rfl, rfl, by decide +kernel, rfl, by decide +kernel, by decide +kernel⟩
theorem scLetters : FnScope [] [] (defScope sLetters) := ⟨rfl, rfl, rfl, by decide +kernel, rfl, by decide +kernel, by decide +kernel⟩
def Dr (H : Hp) (d : Addr) : Prop := ∃ (c : Addr) (ns : List Int) (i a b e : Int), H d = some (.lst [.ref c, .int i, .int a, .int b, .int e]) ∧ H c = some (.lst (ns.map V.int)) ∧ 0 ≤ i
theorem SmX.refl (x : Addr) (H : Hp) : SmX x H H := fun _ _ _ h => h
theorem SmX.trans {x : Addr} {H H1 H2 : Hp} (a : SmX x H H1) (b : SmX x H1 H2) : SmX x H H2 := fun c o n h => b c o n (a c o n h)
theorem SmX.of {x : Addr} {H H1 : Hp} (a : Same H H1) : SmX x H H1 := fun c o _ h => a c o h
theorem SmX.upd {x : Addr} {H : Hp} {o : HO} : SmX x H (L2.upd H x o) := fun c z n h => by rw [upd_ne n]; exact h
/-- all but d's list stays, and the first of d's list too -/
def HeadC (H : Hp) (d c : Addr) : Prop := ∃ r, H d = some (.lst (.ref c :: r))
def SmD (d : Addr) (H H' : Hp) : Prop := SmX d H H' ∧ ∀ c, HeadC H d c → HeadC H' d c
theorem SmD.refl (x : Addr) (H : Hp) : SmD x H H := ⟨SmX.refl x H, fun _ h => h⟩
theorem SmD.trans {x : Addr} {H H1 H2 : Hp} (a : SmD x H H1) (b : SmD x H1 H2) : SmD x H H2 := ⟨a.1.trans b.1, fun c h => b.2 c (a.2 c h)⟩
theorem SmD.of {x : Addr} {H H1 : Hp} (a : Same H H1) : SmD x H H1 := ⟨SmX.of a, fun _ ⟨r, h⟩ => ⟨r, a _ _ h⟩⟩
theorem SmD.upd {x c : Addr} {H : Hp} {r r' : List V} (h : H x = some (.lst (.ref c :: r))) : SmD x H (L2.upd H x (.lst (.ref c :: r'))) := ⟨SmX.upd, fun c2 ⟨r2, h2⟩ => by
  rw [h] at h2
  have e : c = c2 := by
    injection h2 with h3
    injection h3 with h3
    injection h3 with h3 _
    injection h3
  exact ⟨r', by rw [← e]; exact upd_same⟩⟩
theorem dr_ne {H : Hp} {c d : Addr} {ns : List Int} {x : Addr} {i a b e : Int} (h1 : H d = some (.lst [.ref x, .int i, .int a, .int b, .int e])) (h2 : H c = some (.lst (ns.map V.int))) : c ≠ d := ne_of h2 h1 fun z => by
  have z2 : ns.map V.int = [.ref x, .int i, .int a, .int b, .int e] := by injection z
  cases ns with
  | nil => cases z2
  | cons n r =>
    rw [List.map_cons] at z2
    injection z2 with z3 _
    cases z3
theorem Dr.same {H H' : Hp} {d : Addr} (h : Dr H d) (e : Same H H') : Dr H' d := by
  obtain ⟨c, ns, i, a, b, f, h1, h2, h3⟩ := h
  exact ⟨c, ns, i, a, b, f, e _ _ h1, e _ _ h2, h3⟩
section
variable {P : Program} {w : World} {K : PySem.W.Frag} {mg : Str → Option Value} {base : Heap}
def spDraw : Sp := fun vs H Q _ => ∃ d n, vs = [.ref d, .int n] ∧ Dr H d ∧ 1 ≤ n ∧ n ≤ 1000 ∧ ∀ H' v, SmD d H H' → Dr H' d → 0 ≤ v → v < n → Q (.int v) H'
set_option maxHeartbeats 1000000 in
theorem ok_draw {f : Addr} {fd : FuncData} {k : Nat} (B : BM mg) (F : Fun K "_law_draw" "_law_draw" sDraw f fd) : FnOk P w K mg base CX0 (k + 1) f fd ["_law_d", "_law_many"] spDraw := by
  refine F.ok scDraw (fun vs H Q E h => ?_) (fun cdv A outer s H vs Q E hr h => ?_)
  · obtain ⟨d, n, rfl, _⟩ := h
    rfl
  · obtain ⟨d, n, rfl, D, hn1, hn2, q⟩ := h
    refine ⟨_, C8.pss_cut (ps_if (PW.pt (pw_and (pt_cmpR op_lt (pe_ix ix_list (pv 0) pe_int (fun _ _ => rfl)) (pv 1) (nomark _))
        (pw_and1 (pt_cmpR op_lt (pe_ix ix_list (pv 0) pe_int (fun _ _ => rfl)) (pe_callB call_len_seq (by rfl) B.len PySem.boot_len (pa_cons (pe_ix ix_list (pv 0) pe_int (fun _ _ => rfl)) pa_nil)) (nomark _)))))
      (pss_cons (ps_set (i := 2) scDraw.nd rfl (.inl rfl) (pe_ix ix_list (pe_ix ix_list (pv 0) pe_int (fun _ _ => rfl)) (pe_ix ix_list (pv 0) pe_int (fun _ _ => rfl)) (fun _ _ => rfl)))
      (pss_cons (ps_asg (pe_op op_add (pe_ix ix_list (pv 0) pe_int (fun _ _ => rfl)) pe_int) (pg_sub (pv 0) pe_int set_list))
      (pss_cons (ps_asg (pe_ifExp (pt_cmpR op_ge (pv 2) (pe_op op_pow pe_int pe_int) (nomark _)) (pv 2) pe_int) (pg_sub (pv 0) pe_int set_list))
      (pss_one (ps_asg (pe_op op_mod (pe_op op_add (pe_op op_add (pe_op op_mul (pe_ix ix_list (pv 0) pe_int (fun _ _ => rfl)) pe_int) (pe_op op_mod (pv 2) pe_int)) pe_int) pe_int) (pg_sub (pv 0) pe_int set_list)))))) pss_nil)
      (pss_cons (ps_if (pt_cmpR op_ge (pe_ix ix_list (pv 0) pe_int (fun _ _ => rfl)) (pv 1) (nomark _))
        (pss_cons (ps_set (i := 3) scDraw.nd rfl (.inl rfl) (pe_op op_mod (pe_ix ix_list (pv 0) pe_int (fun _ _ => rfl)) (pv 1)))
        (pss_cons (ps_asg (pe_op op_fdiv (pe_ix ix_list (pv 0) pe_int (fun _ _ => rfl)) (pv 1)) (pg_sub (pv 0) pe_int set_list))
        (pss_one (ps_ret (pv 3))))) pss_nil)
      (pss_cons (ps_asg (pe_op op_add (pe_ix ix_list (pv 0) pe_int (fun _ _ => rfl)) pe_int) (pg_sub (pv 0) pe_int set_list))
      (pss_cons (ps_set (i := 4) scDraw.nd rfl (.inl rfl) (pe_op op_add (pe_op op_add (pe_op op_mul (pe_ix ix_list (pv 0) pe_int (fun _ _ => rfl)) pe_int) (pe_op op_mul (pe_ix ix_list (pv 0) pe_int (fun _ _ => rfl)) pe_int)) pe_int))
      (pss_cons (ps_set (i := 4) scDraw.nd rfl (.inl rfl) (pe_op op_add (pe_op op_mul (pv 4) (pe_op op_add (pe_op op_mod (pv 4) pe_int) pe_int)) (pe_op op_mul (pe_ix ix_list (pv 0) pe_int (fun _ _ => rfl)) pe_int)))
      (pss_cons (ps_asg (pe_op op_mod (pv 4) pe_int) (pg_sub (pv 0) pe_int set_list))
      (pss_one (ps_ret (pe_op op_mod (pe_op op_add (pe_op op_fdiv (pe_ix ix_list (pv 0) pe_int (fun _ _ => rfl)) pe_int) (pe_op op_mul (pe_op op_mod (pe_ix ix_list (pv 0) pe_int (fun _ _ => rfl)) pe_int) pe_int)) (pv 1))))))))), ?_⟩
    obtain ⟨c, ns, i, a, b, e, hd, hc, hi⟩ := D
    have nc := dr_ne hd hc
    refine ⟨fun σ H' => ∃ y2 y3 y4, σ = [some (.ref d), some (.int n), y2, y3, y4] ∧ SmD d H H' ∧ Dr H' d, ?_, ?_⟩
    · refine ⟨_, rfl, d, _, 2, .int a, rfl, rfl, SqL.of hd, rfl, _, rfl, _, _, rfl, rfl, _, rfl, ite2 (fun t1 => ?_) (fun t1 => ?_)⟩
      · refine ⟨_, rfl, d, _, 1, .int i, rfl, rfl, SqL.of hd, rfl, _, rfl, d, _, 0, .ref c, rfl, rfl, SqL.of hd, rfl, c, _, rfl, .inl (SqL.of hc), _, _, rfl, rfl, _, rfl, ite2 (fun t2 => ?_) (fun t2 => ?_)⟩
        · have hil : i < (ns.length : Int) := by
            have := of_decide_eq_true t2
            rw [List.length_map] at this
            exact this
          obtain ⟨j, rfl⟩ := Int.eq_ofNat_of_zero_le hi
          have hjl : j < ns.length := by omega
          have hat : (ns.map V.int)[j]? = some (.int ns[j]) := by rw [List.getElem?_map, List.getElem?_eq_getElem hjl]; rfl
          refine ⟨_, rfl, d, _, 0, .ref c, rfl, rfl, SqL.of hd, rfl, _, rfl, d, _, 1, .int j, rfl, rfl, SqL.of hd, rfl, c, _, j, .int ns[j], rfl, rfl, SqL.of hc, atI_nat hat, ?_⟩
          generalize ns[j] = z
          refine ⟨_, rfl, d, _, 1, .int j, rfl, rfl, SqL.of hd, rfl, _, _, rfl, rfl, _, rfl, d, _, 1, 1, rfl, rfl, hd, rfl, ?_⟩
          have fin : ∀ (H2 : Hp) (z2 : Int), SmD d H H2 → H2 d = some (.lst [.ref c, .int ((j : Int) + 1), .int z2, .int b, .int e]) →
              ∃ H3, SmD d H H3 ∧ Dr H3 d ∧ H3 = upd H2 d (.lst ([.ref c, .int ((j : Int) + 1), .int z2, .int b, .int e].set 3 (.int ((b * 69621 + z % 998244353 + 1) % 2147483647)))) := fun H2 z2 s2 e2 =>
            ⟨_, s2.trans (SmD.upd e2), ⟨c, ns, _, _, _, _, upd_same, by rw [upd_ne nc]; exact s2.1 _ _ nc hc, by omega⟩, rfl⟩
          refine ⟨_, rfl, _, _, rfl, rfl, ⟨by decide, by decide, by decide⟩, _, _, rfl, rfl, _, rfl, ite2 (fun t3 => ?_) (fun t3 => ?_)⟩
          · refine ⟨_, rfl, _, rfl, d, _, 2, 2, rfl, rfl, upd_same, rfl, ?_⟩
            rw [L2.upd_upd]
            obtain ⟨H3, a1, a2, a3⟩ := fin (upd H d (.lst [.ref c, .int ((j : Int) + 1), .int z, .int b, .int e])) z (SmD.upd hd) upd_same
            refine ⟨_, rfl, d, _, 3, .int b, rfl, rfl, SqL.of upd_same, rfl, _, _, rfl, rfl, .inr ⟨by decide, by decide⟩, _, rfl, _, _, rfl, rfl, (by show (0 : Int) < 998244353; decide), _, _, rfl, rfl, _, _, rfl, rfl, _, _, rfl, rfl, (by show (0 : Int) < 2147483647; decide), _, rfl, d, _, 3, 3, rfl, rfl, upd_same, rfl, ?_⟩
            exact ⟨_, _, _, rfl, by rw [a3] at a1; exact a1, by rw [a3] at a2; exact a2⟩
          · refine ⟨_, rfl, d, _, 2, 2, rfl, rfl, upd_same, rfl, ?_⟩
            rw [L2.upd_upd]
            obtain ⟨H3, a1, a2, a3⟩ := fin (upd H d (.lst [.ref c, .int ((j : Int) + 1), .int 0, .int b, .int e])) 0 (SmD.upd hd) upd_same
            refine ⟨_, rfl, d, _, 3, .int b, rfl, rfl, SqL.of upd_same, rfl, _, _, rfl, rfl, .inr ⟨by decide, by decide⟩, _, rfl, _, _, rfl, rfl, (by show (0 : Int) < 998244353; decide), _, _, rfl, rfl, _, _, rfl, rfl, _, _, rfl, rfl, (by show (0 : Int) < 2147483647; decide), _, rfl, d, _, 3, 3, rfl, rfl, upd_same, rfl, ?_⟩
            exact ⟨_, _, _, rfl, by rw [a3] at a1; exact a1, by rw [a3] at a2; exact a2⟩
        · exact ⟨_, _, _, rfl, SmD.refl _ _, c, ns, i, a, b, e, hd, hc, hi⟩
      · exact iteF ⟨_, _, _, rfl, SmD.refl _ _, c, ns, i, a, b, e, hd, hc, hi⟩
    · rintro σ H1 ⟨y2, y3, y4, rfl, s1, c1, ns1, i1, a1, b1, e1, hd1, hc1, hi1⟩
      have nc1 := dr_ne hd1 hc1
      refine ⟨_, rfl, d, _, 2, .int a1, rfl, rfl, SqL.of hd1, rfl, _, rfl, _, _, rfl, rfl, _, rfl, ite2 (fun t1 => ?_) (fun t1 => ?_)⟩
      · refine ⟨_, rfl, d, _, 2, .int a1, rfl, rfl, SqL.of hd1, rfl, _, rfl, _, _, rfl, rfl, (by show 0 < n; omega), ?_⟩
        refine ⟨_, rfl, d, _, 2, .int a1, rfl, rfl, SqL.of hd1, rfl, _, rfl, _, _, rfl, rfl, ⟨by omega, by omega⟩, _, rfl, d, _, 2, 2, rfl, rfl, hd1, rfl, ?_⟩
        refine ⟨_, rfl, q _ _ (s1.trans (SmD.upd hd1)) ⟨c1, ns1, _, _, _, _, upd_same, by rw [upd_ne nc1]; exact hc1, hi1⟩ (Int.emod_nonneg _ (by omega)) (Int.emod_lt_of_pos _ (by omega))⟩
      · refine ⟨_, rfl, d, _, 4, .int e1, rfl, rfl, SqL.of hd1, rfl, _, _, rfl, rfl, _, rfl, d, _, 4, 4, rfl, rfl, hd1, rfl, ?_⟩
        have hd2 : (upd H1 d (.lst ([.ref c1, .int i1, .int a1, .int b1, .int e1].set 4 (.int (e1 + 1))))) d = some (.lst [.ref c1, .int i1, .int a1, .int b1, .int (e1 + 1)]) := upd_same
        refine ⟨_, rfl, d, _, 3, .int b1, rfl, rfl, SqL.of hd2, rfl, _, _, rfl, rfl, .inr ⟨by decide, by decide⟩, _, rfl, d, _, 4, .int (e1 + 1), rfl, rfl, SqL.of hd2, rfl, _, _, rfl, rfl, .inr ⟨by decide, by decide⟩, _, _, rfl, rfl, _, _, rfl, rfl, ?_⟩
        have m1 : 0 ≤ (b1 * 16807 + (e1 + 1) * 40692 + 7) % 65521 := Int.emod_nonneg _ (by decide)
        have m2 : (b1 * 16807 + (e1 + 1) * 40692 + 7) % 65521 < 65521 := Int.emod_lt_of_pos _ (by decide)
        refine ⟨_, rfl, _, rfl, _, _, rfl, rfl, (by show (0 : Int) < 65521; decide), _, _, rfl, rfl, _, _, rfl, rfl, .inr ⟨by show -(2 ^ 64) < (b1 * 16807 + (e1 + 1) * 40692 + 7) % 65521 + 3; omega, by show (b1 * 16807 + (e1 + 1) * 40692 + 7) % 65521 + 3 < 2 ^ 64; omega⟩, _, rfl, d, _, 4, .int (e1 + 1), rfl, rfl, SqL.of hd2, rfl, _, _, rfl, rfl, .inr ⟨by decide, by decide⟩, _, _, rfl, rfl, ?_⟩
        refine ⟨_, rfl, _, _, rfl, rfl, (by show (0 : Int) < 2147483629; decide), _, rfl, d, _, 3, 3, rfl, rfl, hd2, rfl, ?_⟩
        have hd3 : (upd (upd H1 d (.lst ([.ref c1, .int i1, .int a1, .int b1, .int e1].set 4 (.int (e1 + 1))))) d (.lst ([.ref c1, .int i1, .int a1, .int b1, .int (e1 + 1)].set 3 (.int (((b1 * 16807 + (e1 + 1) * 40692 + 7) * ((b1 * 16807 + (e1 + 1) * 40692 + 7) % 65521 + 3) + (e1 + 1) * 9176) % 2147483629))))) d = some (.lst [.ref c1, .int i1, .int a1, .int (((b1 * 16807 + (e1 + 1) * 40692 + 7) * ((b1 * 16807 + (e1 + 1) * 40692 + 7) % 65521 + 3) + (e1 + 1) * 9176) % 2147483629), .int (e1 + 1)]) := upd_same
        refine ⟨_, rfl, d, _, 3, .int (((b1 * 16807 + (e1 + 1) * 40692 + 7) * ((b1 * 16807 + (e1 + 1) * 40692 + 7) % 65521 + 3) + (e1 + 1) * 9176) % 2147483629), rfl, rfl, SqL.of hd3, rfl, _, _, rfl, rfl, ⟨by decide, by decide⟩, _, rfl, d, _, 3, .int (((b1 * 16807 + (e1 + 1) * 40692 + 7) * ((b1 * 16807 + (e1 + 1) * 40692 + 7) % 65521 + 3) + (e1 + 1) * 9176) % 2147483629), rfl, rfl, SqL.of hd3, rfl, _, _, rfl, rfl, (by show (0 : Int) < 8191; decide), _, _, rfl, rfl, .inr ⟨by decide, by decide⟩, _, _, rfl, rfl, _, rfl, _, _, rfl, rfl, (by show 0 < n; omega), ?_⟩
        refine q _ _ ((s1.trans (SmD.upd hd1)).trans (SmD.upd hd2)) ⟨c1, ns1, _, _, _, _, hd3, by rw [upd_ne nc1, upd_ne nc1]; exact hc1, hi1⟩ (Int.emod_nonneg _ (by omega)) (Int.emod_lt_of_pos _ (by omega))
end
end NC
namespace NC
open PySem PySem.Spec PyProof.Rows L2
def ltrs : List Nat := (List.range 26).map (· + 97)
theorem ltrs_eq : Str.ofString "abcdefghijklmnopqrstuvwxyz" = tx ltrs := by decide +kernel
theorem ltrs_at {i c : Nat} (h : ltrs[i]? = some c) : c = 97 + i ∧ i < 26 := by
  unfold ltrs at h
  rw [List.getElem?_map] at h
  obtain ⟨j, hj, e⟩ := Option.map_eq_some_iff.mp h
  obtain ⟨h1, h2⟩ := List.getElem?_eq_some_iff.mp hj
  rw [List.getElem_range] at h2
  rw [List.length_range] at h1
  omega
theorem smx_l {K : PySem.W.Frag} {d : Addr} {H H' : Hp} {a : Addr} {xs : List V} (e : SmX d H H') (n : a ≠ d) (h : SqL K H a xs) : SqL K H' a xs := by
  rcases h with (h | ⟨o, h⟩) | h
  · exact .inl (.inl (e _ _ n h))
  · exact .inl (.inr ⟨o, e _ _ n h⟩)
  · exact .inr h
section
variable {P : Program} {w : World} {K : PySem.W.Frag} {mg : Str → Option Value} {base : Heap}
def spStart (K : PySem.W.Frag) : Sp := fun vs H Q _ => ∃ (a : Addr) (ns : List Int), vs = [.ref a] ∧ SqL K H a (ns.map V.int) ∧ ∀ H' d, Same H H' → H d = none → Dr H' d → Q (.ref d) H'
theorem ok_start {f : Addr} {fd : FuncData} {k : Nat} (B : BM mg) (F : Fun K "_law_start" "_law_start" sStart f fd) : FnOk P w K mg base CX0 (k + 1) f fd ["_law_script"] (spStart K) := by
  refine F.ok scStart (fun vs H Q E h => ?_) (fun cdv A outer s H vs Q E hr h => ?_)
  · obtain ⟨a, ns, rfl, _⟩ := h
    rfl
  · obtain ⟨a, ns, rfl, hS, q⟩ := h
    refine ⟨_, pss_cons (ps_set (i := 1) scStart.nd rfl (.inl rfl) pe_int)
      (pss_cons (ps_for PassesOwn.never rfl (pi_list (pe_slice sl_list (pv 0) po_none (po_some pe_int))) (pg_name (i := 2) scStart.nd rfl (.inl rfl))
        (pss_one (ps_set (i := 1) scStart.nd rfl (.inl rfl) (pe_op op_mod (pe_op op_add (pe_op op_add (pe_op op_mul (pv 1) pe_int) (pe_op op_mod (pv 2) pe_int)) pe_int) pe_int))))
      (pss_one (ps_ret (pe_lst (pa_cons (pe_callTy call_list_of (by rfl) B.list (by decide +kernel) (pa_cons (pe_slice sl_list (pv 0) po_none (po_some pe_int)) pa_nil)) (pa_cons pe_int (pa_cons pe_int (pa_cons (pv 1) (pa_cons pe_int pa_nil))))))))), ?_⟩
    refine ⟨_, rfl, 63, rfl, a, _, rfl, hS, fun p np => ⟨p, rfl, ⟨_, SqL.of upd_same⟩, ?_⟩⟩
    have ec : cutV (ns.map V.int) none (some 63) = (ns.take 63).map V.int := by
      unfold cutV
      rw [HT.sIx_none, show HT.sIx (ns.map V.int).length (ns.map V.int).length (some 63) = min 63 (ns.map V.int).length from HT.sIx_nat _ _ 63, List.drop_zero, Nat.sub_zero, List.map_take, List.length_map]
      rcases Nat.le_total 63 ns.length with h | h
      · rw [Nat.min_eq_left h]
      · rw [Nat.min_eq_right h, List.take_of_length_le (by rw [List.length_map]; exact Nat.le_refl _), List.take_of_length_le (by rw [List.length_map]; exact h)]
    rw [ec]
    have wk := walk_list (K := K) (a := p) (xs := (ns.take 63).map V.int)
    refine for_it wk (fun i σ H' => ∃ (z : Int) (y2 : Option V), σ = [some (.ref a), some (.int z), y2] ∧ Same H H' ∧ H' p = some (.lst ((ns.take 63).map V.int))) ⟨_, _, rfl, same_upd np, upd_same⟩
      (fun i σ H' _ h => by obtain ⟨_, _, _, _, h⟩ := h; exact SqL.of h) ?_ ?_
    · rintro i x σ H1 H2 hi ⟨z, y2, rfl, sm, ep⟩ ⟨rfl, hx⟩
      rw [List.getElem?_map] at hx
      obtain ⟨c, hc, rfl⟩ := Option.map_eq_some_iff.mp hx
      exact ⟨_, rfl, _, _, rfl, rfl, .inr ⟨by decide, by decide⟩, _, rfl, _, _, rfl, rfl, (by show (0 : Int) < 1000003; decide), _, _, rfl, rfl, _, _, rfl, rfl, _, _, rfl, rfl, (by show (0 : Int) < 2147483647; decide), _, _, rfl, sm, ep⟩
    · rintro σ H1 ⟨z, y2, rfl, sm, ep⟩
      refine ⟨_, rfl, 63, rfl, a, _, rfl, sm_l sm hS, fun p2 np2 => ⟨p2, _, rfl, .inl (SqL.of upd_same), fun p3 np3 => ?_⟩⟩
      rw [ec] at np3 ⊢
      have s3 := sm_upd (o := .lst ((ns.take 63).map V.int)) (sm_upd (o := .lst ((ns.take 63).map V.int)) sm np2) np3
      refine ⟨_, rfl, by show 5 ≤ sizeLine; decide, fun d nd => ?_⟩
      have n3 : p3 ≠ d := ne_of_none upd_same nd
      exact q _ d (sm_upd s3 nd) (L2.Same.free s3 nd) ⟨p3, ns.take 63, 0, 0, _, 0, upd_same, by rw [upd_ne n3, upd_same], Int.le_refl _⟩
def spOf (K : PySem.W.Frag) : Sp := fun vs H Q _ => ∃ d x, vs = [.ref d, x] ∧ Dr H d ∧
  ((∃ a xs, x = .ref a ∧ a ≠ d ∧ SqL K H a xs ∧ 1 ≤ xs.length ∧ xs.length ≤ 1000 ∧ ∀ H' v (i : Nat), SmD d H H' → Dr H' d → xs[i]? = some v → Q v H') ∨
    ∃ l : List Nat, x = .str (tx l) ∧ 1 ≤ l.length ∧ l.length ≤ 1000 ∧ ∀ H' c, SmD d H H' → Dr H' d → c ∈ l → Q (.str (sg c)) H')
theorem ok_of {f fD : Addr} {fd fdD : FuncData} {k : Nat} (B : BM mg) (F : Fun K "_law_of" "_law_of" sOf f fd) (D : DF K mg "_law_draw" sDraw ["_law_d", "_law_many"] fD fdD) : FnOk P w K mg base CX0 (k + 2) f fd ["_law_d", "_law_some"] (spOf K) := by
  have GD : FnOk P w K mg base CX0 (k + 1) fD fdD ["_law_d", "_law_many"] spDraw := ok_draw B D.F
  refine F.ok scOf (fun vs H Q E h => ?_) (fun cdv A outer s H vs Q E hr h => ?_)
  · obtain ⟨d, x, rfl, _⟩ := h
    rfl
  · obtain ⟨d, x, rfl, hD, h⟩ := h
    refine ⟨_, pss_one (ps_ret (pe_ix (IxR.or ix_list ix_str) (pv 1) (pe_call GD hr rfl D.g D.F.kp D.b .nil pass0 (pa_cons (pv 0) (pa_cons (pe_callB (CallR.or call_len_seq call_len_str) (by rfl) B.len PySem.boot_len (pa_cons (pv 1) pa_nil)) pa_nil))) (fun _ _ => rfl))), ?_⟩
    rcases h with ⟨a, xs, rfl, nd, hS, h1, h2, q⟩ | ⟨l, rfl, h1, h2, q⟩
    · refine ⟨_, rfl, _, rfl, _, rfl, .inl ⟨a, xs, rfl, .inl hS, d, _, rfl, hD, by omega, by omega, fun H1 v s1 D1 v0 v1 => ?_⟩⟩
      obtain ⟨j, rfl⟩ := Int.eq_ofNat_of_zero_le v0
      have hj : j < xs.length := by omega
      exact .inl ⟨a, xs, j, xs[j], rfl, rfl, smx_l s1.1 nd hS, atI_nat (List.getElem?_eq_getElem hj), q H1 _ j s1 D1 (List.getElem?_eq_getElem hj)⟩
    · have hz : (tx l).length ≤ sizeLine := by rw [tx_len, sizeLine_eq]; omega
      refine ⟨_, rfl, _, rfl, _, rfl, .inr ⟨tx l, rfl, hz, d, _, rfl, hD, by rw [tx_len]; omega, by rw [tx_len]; omega, fun H1 v s1 D1 v0 v1 => ?_⟩⟩
      obtain ⟨j, rfl⟩ := Int.eq_ofNat_of_zero_le v0
      have hj : j < l.length := by rw [tx_len] at v1; omega
      exact .inr ⟨tx l, j, l[j], rfl, rfl, hz, by rw [tx_list]; exact atI_nat (List.getElem?_eq_getElem hj), q H1 _ s1 D1 (List.getElem_mem hj)⟩
theorem ok_letters {f : Addr} {fd : FuncData} {k : Nat} (F : Fun K "_law_letters" "_law_letters" sLetters f fd) : FnOk P w K mg base CX0 (k + 1) f fd [] (fun vs H Q _ => vs = [] ∧ Q (.str (tx ltrs)) H) := by
  refine F.ok scLetters (fun vs H Q E h => ?_) (fun cdv A outer s H vs Q E hr h => ?_)
  · obtain ⟨rfl, _⟩ := h
    rfl
  · obtain ⟨rfl, q⟩ := h
    refine ⟨_, pss_one (ps_ret pe_str), ?_⟩
    show Q (.str (Str.ofString "abcdefghijklmnopqrstuvwxyz")) H
    rw [ltrs_eq]
    exact q
end
end NC
namespace NC
open PySem PySem.Spec PyProof.Rows L2
abbrev sShuts : Stmt := topS 84
abbrev sPairs : Stmt := topS 87
theorem scShuts : FnScope ["_law_d", "_law_most", "_law_found", "_law_skip", "_law_sign"] ["_law_d", "_law_most"] (defScope sShuts) := ⟨rfl, rfl, rfl, by decide +kernel, rfl, by decide +kernel, by decide +kernel⟩
theorem cut_from (l : List Nat) (j : Nat) : cutS (tx l) (some ((j : Nat) : Int)) none = tx (l.drop j) := by
  unfold cutS
  rw [HT.sIx_none, HT.sIx_nat, tx_list, tx_len]
  show Str.mk _ = Str.mk _
  congr 1
  rcases Nat.le_total j l.length with h | h
  · rw [Nat.min_eq_left h, List.take_of_length_le (by rw [List.length_drop]; exact Nat.le_refl _)]
  · rw [Nat.min_eq_right h, List.drop_of_length_le (Nat.le_refl _), List.drop_of_length_le h]
    simp
theorem strK : (Str.ofString "k") = tx [107] := by decide +kernel
theorem str0 : (Str.ofString "") = tx [] := by decide +kernel
theorem good_k : GoodW [107] := ⟨by decide, by decide, fun c h => by simp at h; omega, by simp⟩
section
variable {P : Program} {w : World} {K : PySem.W.Frag} {mg : Str → Option Value} {base : Heap}
def spShuts : Sp := fun vs H Q _ => ∃ (d : Addr) (n : Int), vs = [.ref d, .int n] ∧ Dr H d ∧ 1 ≤ n ∧ n ≤ 12 ∧ ∀ H' l, SmD d H H' → Dr H' d → GoodW l → (l.length : Int) ≤ n → Q (.str (tx l)) H'
set_option maxHeartbeats 1000000 in
theorem ok_shuts {f fD fL : Addr} {fd fdD fdL : FuncData} {k : Nat} (B : BM mg) (F : Fun K "_law_shuts" "_law_shuts" sShuts f fd) (D : DF K mg "_law_draw" sDraw ["_law_d", "_law_many"] fD fdD) (Lt : DF K mg "_law_letters" sLetters [] fL fdL) :
    FnOk P w K mg base CX0 (k + 2) f fd ["_law_d", "_law_most"] spShuts := by
  have GD : FnOk P w K mg base CX0 (k + 1) fD fdD ["_law_d", "_law_many"] spDraw := ok_draw B D.F
  have GL := ok_letters (P := P) (w := w) (mg := mg) (base := base) (k := k) Lt.F
  refine F.ok scShuts (fun vs H Q E h => ?_) (fun cdv A outer s H vs Q E hr h => ?_)
  · obtain ⟨d, n, rfl, _⟩ := h
    rfl
  · obtain ⟨d, n, rfl, hD, hn1, hn2, q⟩ := h
    refine ⟨_, pss_cons (ps_set (i := 2) scShuts.nd rfl (.inl rfl) pe_str)
      (pss_cons (ps_set (i := 3) scShuts.nd rfl (.inl rfl) (pe_ix ix_list (pe_lst (pa_cons pe_int (pa_cons pe_int (pa_cons pe_int pa_nil)))) (pe_call GD hr rfl D.g D.F.kp D.b .nil pass0 (pa_cons (pv 0) (pa_cons pe_int pa_nil))) (fun _ _ => rfl)))
      (pss_cons (ps_for PassesOwn.never rfl (pi_str (pe_slice sl_str (pe_call0 GL hr rfl Lt.g Lt.F.kp Lt.b .nil pass0) (po_some (pe_call GD hr rfl D.g D.F.kp D.b .nil pass0 (pa_cons (pv 0) (pa_cons pe_int pa_nil)))) po_none)) (pg_name (i := 4) scShuts.nd rfl (.inl rfl))
        (pss_one (ps_if (PW.pt (pw_and (pt_cmpR op_lt (pe_callB call_len_str (by rfl) B.len PySem.boot_len (pa_cons (pv 2) pa_nil)) (pv 1) (nomark _))
            (pw_and1 (PW.pt (pw_or (pt_cmpR op_eq (pv 3) pe_int (nomark _)) (pw_or1 (pt_cmpR op_eq (pe_call GD hr rfl D.g D.F.kp D.b .nil pass0 (pa_cons (pv 0) (pa_cons (pv 3) pa_nil))) pe_int (nomark _))))))))
          (pss_one (ps_set (i := 2) scShuts.nd rfl (.inl rfl) (pe_op op_add_str (pv 2) (pv 4)))) pss_nil)))
      (pss_one (ps_ret (pe_ifExp (pt_cmpR op_ne (pv 2) pe_str (nomark _)) (pv 2) pe_str))))), ?_⟩
    refine ⟨by show 3 ≤ sizeLine; decide, fun p np => ?_⟩
    have ndp : d ≠ p := by
      obtain ⟨c, ns, i, a, b, e, hd, _⟩ := hD
      exact ne_of_none hd np
    have D1 : Dr (upd H p (.lst [.int 0, .int 2, .int 26])) d := hD.same (same_upd np)
    refine ⟨_, rfl, d, 3, rfl, D1, by decide, by decide, fun H1 v s1 D1' v0 v1 => ?_⟩
    have s01 : SmD d H H1 := (SmD.of (same_upd np)).trans s1
    have ep : H1 p = some (.lst [.int 0, .int 2, .int 26]) := s1.1 _ _ (Ne.symm ndp) upd_same
    obtain ⟨sk, hsk, hat⟩ : ∃ sk : Int, (sk = 0 ∨ sk = 2 ∨ sk = 26) ∧ atI [V.int 0, .int 2, .int 26] v = some (.int sk) := by
      have hv : v = 0 ∨ v = 1 ∨ v = 2 := by omega
      rcases hv with rfl | rfl | rfl
      · exact ⟨0, .inl rfl, rfl⟩
      · exact ⟨2, .inr (.inl rfl), rfl⟩
      · exact ⟨26, .inr (.inr rfl), rfl⟩
    refine ⟨p, _, v, .int sk, rfl, rfl, SqL.of ep, hat, ?_⟩
    refine ⟨rfl, _, rfl, d, 9, rfl, D1', by decide, by decide, fun H2 u s2 D2 u0 u1 => ?_⟩
    obtain ⟨j, rfl⟩ := Int.eq_ofNat_of_zero_le u0
    refine ⟨_, rfl, _, rfl, by rw [tx_len, sizeLine_eq]; decide, ?_⟩
    rw [cut_from]
    refine ⟨_, rfl, ?_⟩
    have lz : (tx (ltrs.drop j)).cps.size = (ltrs.drop j).length := tx_len _
    refine for_it walk_str (fun i σ H' => ∃ (l : List Nat) (y4 : Option V), σ = [some (.ref d), some (.int n), some (.str (tx l)), some (.int sk), y4] ∧ SmD d H H' ∧ Dr H' d ∧ l.Pairwise (· < ·) ∧ (∀ c ∈ l, 97 ≤ c ∧ c < 97 + (j + i) ∧ c ≤ 122) ∧ (l.length : Int) ≤ n)
      ⟨[], _, by rw [← str0]; rfl, s01.trans s2, D2, List.Pairwise.nil, (fun c h => absurd h (by simp)), by show (0 : Int) ≤ n; omega⟩ (fun _ _ _ _ _ => trivial) ?_ ?_
    · rintro i x σ H3 H4 hi ⟨l, y4, rfl, s3, D3, pw, hb, hln⟩ ⟨rfl, c, hc, rfl⟩
      have hcc : c = 97 + (j + i) ∧ j + i < 26 := by
        rw [← Array.getElem?_toList, tx_list, List.getElem?_drop] at hc
        exact ltrs_at hc
      have hlz : (tx l).length ≤ sizeLine := by rw [tx_len, sizeLine_eq]; omega
      have stay : ∀ (y : Option V) (H5 : Hp), SmD d H H5 → Dr H5 d → ∃ (l1 : List Nat) (y4 : Option V), [some (V.ref d), some (.int n), some (.str (tx l)), some (.int sk), y] = [some (.ref d), some (.int n), some (.str (tx l1)), some (.int sk), y4] ∧ SmD d H H5 ∧ Dr H5 d ∧ l1.Pairwise (· < ·) ∧
          (∀ c ∈ l1, 97 ≤ c ∧ c < 97 + (j + (i + 1)) ∧ c ≤ 122) ∧ (l1.length : Int) ≤ n := fun y H5 a1 a2 => ⟨l, y, rfl, a1, a2, pw, fun e he => by have := hb e he; omega, hln⟩
      have grow : ∀ (H5 : Hp), SmD d H H5 → Dr H5 d → (l.length : Int) < n → (tx l).length + (sg c).length ≤ sizeLine ∧ ∃ (l1 : List Nat) (y4 : Option V), [some (V.ref d), some (.int n), some (.str (tx l ++ sg c)), some (.int sk), some (.str (sg c))] = [some (.ref d), some (.int n), some (.str (tx l1)), some (.int sk), y4] ∧ SmD d H H5 ∧ Dr H5 d ∧ l1.Pairwise (· < ·) ∧
          (∀ c ∈ l1, 97 ≤ c ∧ c < 97 + (j + (i + 1)) ∧ c ≤ 122) ∧ (l1.length : Int) ≤ n := fun H5 a1 a2 hlt => by
        refine ⟨by rw [tx_len, sizeLine_eq]; show l.length + 1 ≤ _; omega, l ++ [c], _, by rw [sg_tx, tx_app], a1, a2, ?_, fun e he => ?_, by rw [List.length_append]; show ((l.length + 1 : Nat) : Int) ≤ n; omega⟩
        · refine List.pairwise_append.mpr ⟨pw, by simp, fun a ha b hb2 => ?_⟩
          have := hb a ha
          have := List.mem_singleton.mp hb2
          omega
        · rcases List.mem_append.mp he with z | z
          · have := hb e z
            omega
          · have := List.mem_singleton.mp z
            omega
      refine ⟨_, rfl, _, rfl, hlz, _, rfl, _, _, rfl, rfl, _, rfl, ite2 (fun t1 => ?_) (fun t1 => ?_)⟩
      · have hlt : (l.length : Int) < n := by
          have := of_decide_eq_true t1
          rw [tx_len] at this
          exact this
        refine ⟨_, rfl, rfl, _, rfl, ite2 (fun t2 => ?_) (fun t2 => ?_)⟩
        · obtain ⟨g1, g2⟩ := grow H4 s3 D3 hlt
          exact iteT ⟨_, rfl, _, rfl, _, _, rfl, rfl, g1, g2⟩
        · have hsk2 : 1 ≤ sk ∧ sk ≤ 1000 := by
            have : sk ≠ 0 := fun z => t2 (by rw [z]; exact decide_eq_true rfl)
            omega
          refine ⟨_, rfl, _, rfl, d, sk, rfl, D3, hsk2.1, hsk2.2, fun H5 v5 s5 D5 _ _ => ⟨rfl, _, rfl, ite2 (fun t3 => ?_) (fun t3 => ?_)⟩⟩
          · obtain ⟨g1, g2⟩ := grow H5 (s3.trans s5) D5 hlt
            exact ⟨_, rfl, _, rfl, _, _, rfl, rfl, g1, g2⟩
          · exact stay _ H5 (s3.trans s5) D5
      · exact iteF (stay _ H4 s3 D3)
    · rintro σ H3 ⟨l, y4, rfl, s3, D3, pw, hb, hln⟩
      refine ⟨_, rfl, rfl, _, rfl, ite2 (fun t1 => ?_) (fun t1 => ?_)⟩
      · have hl0 : l ≠ [] := fun z => by
          rw [z, ← str0] at t1
          exact absurd t1 (by decide +kernel)
        refine ⟨_, rfl, q H3 l s3 D3 ⟨List.length_pos_iff.mpr hl0, by omega, fun c hc => (by have := hb c hc; omega), pw⟩ hln⟩
      · show Q (.str (Str.ofString "k")) H3
        rw [strK]
        exact q H3 [107] s3 D3 good_k (by show (1 : Int) ≤ n; omega)
end
end NC
namespace NC
open PySem PySem.Spec PyProof.Rows L2
theorem scPairs : FnScope ["_law_shuts_here", "_law_found", "_law_one", "_law_two", "_law_first", "_law_second"] ["_law_shuts_here"] (defScope sPairs) := ⟨rfl, rfl, rfl, by decide +kernel, rfl, by decide +kernel, by decide +kernel⟩
def sec (f y : Nat) : List (List Nat) := [y, upc y].map fun s => [f, s]
def pr2 (x y : Nat) : List (List Nat) := [x, upc x].flatMap fun f => sec f y
def prI (l : List Nat) (i m : Nat) : List (List Nat) := (List.range m).flatMap fun j => pr2 (l.getD i 0) (l.getD (i + 1 + j) 0)
def prs (l : List Nat) (m : Nat) : List (List Nat) := (List.range m).flatMap fun i => prI l i (l.length - (i + 1))
theorem prI_len (l : List Nat) (i m : Nat) : (prI l i m).length = 4 * m := by
  induction m with
  | zero => rfl
  | succ m ih =>
    unfold prI at ih ⊢
    rw [List.range_succ, List.flatMap_append, List.length_append, ih]
    show _ + ([m].flatMap _).length = _
    simp [pr2, sec]
    omega
theorem prs_len (l : List Nat) : ∀ m, (prs l m).length ≤ 4 * l.length * m
  | 0 => by simp [prs]
  | m + 1 => by
    have ih := prs_len l m
    unfold prs at ih ⊢
    rw [List.range_succ, List.flatMap_append, List.length_append]
    have e : ([m].flatMap fun i => prI l i (l.length - (i + 1))).length = 4 * (l.length - (m + 1)) := by simp [prI_len]
    rw [e, Nat.mul_succ]
    have : 4 * (l.length - (m + 1)) ≤ 4 * l.length := Nat.mul_le_mul_left _ (Nat.sub_le _ _)
    omega
theorem lwc_of {x f : Nat} (h : 97 ≤ x ∧ x ≤ 122) (hf : f ∈ [x, upc x]) : lwc f = x := by
  rcases List.mem_cons.mp hf with e | e
  · rw [e]; unfold lwc; rw [if_neg (by omega)]
  · rw [List.mem_singleton.mp e, upc_small h]; unfold lwc; rw [if_pos (by omega)]; omega
theorem sds_of {l : List Nat} (g : GoodW l) {x f : Nat} (hx : x ∈ l) (hf : f ∈ [x, upc x]) : f ∈ sds l := by
  rcases List.mem_cons.mp hf with e | e
  · rw [e]; exact sds_of_small hx
  · rw [List.mem_singleton.mp e, upc_small (g.sm x hx)]; exact sds_of_great g hx
theorem of_sds {l : List Nat} (g : GoodW l) {f : Nat} (h : f ∈ sds l) : lwc f ∈ l ∧ f ∈ [lwc f, upc (lwc f)] := by
  rcases sds_shape g h with ⟨a, b, hm⟩ | ⟨a, b, hm⟩
  · have e : lwc f = f := by unfold lwc; rw [if_neg (by omega)]
    rw [e]
    exact ⟨hm, List.mem_cons_self ..⟩
  · have e : lwc f = f + 32 := by unfold lwc; rw [if_pos ⟨a, b⟩]
    rw [e, upc_small (by omega), show f + 32 - 32 = f by omega]
    exact ⟨hm, by simp⟩
theorem getD_of {l : List Nat} {i : Nat} (h : i < l.length) : l.getD i 0 = l[i] := by simp [List.getD, h]
theorem prs_mem {l : List Nat} (g : GoodW l) (b : List Nat) : b ∈ prs l l.length ↔ isBar l b = true := by
  constructor
  · intro h
    obtain ⟨i, hi, h⟩ := List.mem_flatMap.mp h
    obtain ⟨j, hj, h⟩ := List.mem_flatMap.mp h
    obtain ⟨f, hf, h⟩ := List.mem_flatMap.mp h
    obtain ⟨s, hs, rfl⟩ := List.mem_map.mp h
    have hi := List.mem_range.mp hi
    have hj := List.mem_range.mp hj
    have hk : i + 1 + j < l.length := by omega
    rw [getD_of hi] at hf
    rw [getD_of hk] at hs
    have m1 : l[i] ∈ l := List.getElem_mem hi
    have m2 : l[i + 1 + j] ∈ l := List.getElem_mem hk
    have lt : l[i] < l[i + 1 + j] := List.pairwise_iff_getElem.mp g.rise i (i + 1 + j) hi hk (by omega)
    show (decide (f ∈ sds l) && (decide (s ∈ sds l) && decide (lwc f < lwc s))) = true
    rw [decide_eq_true (sds_of g m1 hf), decide_eq_true (sds_of g m2 hs), lwc_of (g.sm _ m1) hf, lwc_of (g.sm _ m2) hs, decide_eq_true lt]
    rfl
  · intro h
    obtain ⟨f, s, rfl, hf, hs, lt⟩ := bar_two h
    obtain ⟨m1, f1⟩ := of_sds g hf
    obtain ⟨m2, s1⟩ := of_sds g hs
    obtain ⟨i, hi, ei⟩ := List.getElem_of_mem m1
    obtain ⟨k, hk, ek⟩ := List.getElem_of_mem m2
    have hik : i < k := by
      rcases Nat.lt_trichotomy i k with z | z | z
      · exact z
      · subst z
        rw [← ei, ← ek] at lt
        omega
      · have := List.pairwise_iff_getElem.mp g.rise k i hk hi z
        omega
    refine List.mem_flatMap.mpr ⟨i, List.mem_range.mpr hi, List.mem_flatMap.mpr ⟨k - (i + 1), List.mem_range.mpr (by omega), List.mem_flatMap.mpr ⟨f, ?_, List.mem_map.mpr ⟨s, ?_, rfl⟩⟩⟩⟩
    · rw [getD_of hi, ei]
      exact f1
    · rw [show i + 1 + (k - (i + 1)) = k by omega, getD_of hk, ek]
      exact s1
section
variable {P : Program} {w : World} {K : PySem.W.Frag} {mg : Str → Option Value} {base : Heap}
def spPairs : Sp := fun vs H Q _ => ∃ l, vs = [.str (tx l)] ∧ GoodW l ∧ ∀ H' p, Same H H' → H p = none → H' p = some (.lst (((prs l l.length).map tx).map V.str)) → Q (.ref p) H'
set_option maxHeartbeats 1000000 in
theorem ok_pairs {f : Addr} {fd : FuncData} {k : Nat} (B : BM mg) (F : Fun K "_law_pairs" "_law_pairs" sPairs f fd) : FnOk P w K mg base CX0 (k + 1) f fd ["_law_shuts_here"] spPairs := by
  refine F.ok scPairs (fun vs H Q E h => ?_) (fun cdv A outer s H vs Q E hr h => ?_)
  · obtain ⟨l, rfl, _⟩ := h
    rfl
  · obtain ⟨l, rfl, g, q⟩ := h
    have hz : (tx l).length ≤ sizeLine := by rw [tx_len, sizeLine_eq]; have := g.hi; omega
    refine ⟨_, pss_cons (ps_set (i := 1) scPairs.nd rfl (.inl rfl) (pe_lst pa_nil))
      (pss_cons (ps_for PassesOwn.never rfl (pi_range1 (by rfl) B.range (pa_cons (pe_callB call_len_str (by rfl) B.len PySem.boot_len (pa_cons (pv 0) pa_nil)) pa_nil)) (pg_name (i := 2) scPairs.nd rfl (.inl rfl))
        (pss_one (ps_for PassesOwn.never rfl (pi_range2 (by rfl) B.range (pa_cons (pe_op op_add (pv 2) pe_int) (pa_cons (pe_callB call_len_str (by rfl) B.len PySem.boot_len (pa_cons (pv 0) pa_nil)) pa_nil))) (pg_name (i := 3) scPairs.nd rfl (.inl rfl))
          (pss_one (ps_for PassesOwn.never rfl (pi_tup (pe_tup (pa_cons (pe_ix ix_str (pv 0) (pv 2) (fun _ _ => rfl)) (pa_cons (pe_upper (pe_ix ix_str (pv 0) (pv 2) (fun _ _ => rfl))) pa_nil)))) (pg_name (i := 4) scPairs.nd rfl (.inr rfl))
            (pss_one (ps_expr (pe_bm PySem.F.plainAttrs_list PySem.F.slot_list_extend PySem.F.type_list_extend mt_extend (pv 1) (pa_cons
              (pe_lc (own := [("_law_second", 5)]) (g := gName 5) (tt := tYes) rfl scPairs.nd (pi_tup (pe_tup (pa_cons (pe_ix ix_str (pv 0) (pv 3) (fun _ _ => rfl)) (pa_cons (pe_upper (pe_ix ix_str (pv 0) (pv 3) (fun _ _ => rfl))) pa_nil))))
                (blkOk_by (N := ["_law_shuts_here", "_law_found", "_law_one", "_law_two", "_law_first", "_law_second"]) (sc := defScope sPairs) (by decide +kernel)) (fun _ _ _ _ _ => pg_name (i := 5) scPairs.nd rfl (Or.inl rfl)) (fun _ _ _ _ _ => pts_nil) (fun _ _ _ _ _ => pe_op op_add_str (pv 4) (pv 5)))
              pa_nil)))))))))
      (pss_one (ps_ret (pv 1)))), ?_⟩
    refine ⟨Nat.zero_le _, fun p np => ?_⟩
    refine ⟨_, rfl, _, rfl, hz, _, rfl, by rw [tx_len]; omega, by rw [tx_len]; have := g.hi; omega, ?_⟩
    have hi12 := g.hi
    rw [show (((tx l).length : Nat) : Int).toNat = l.length by rw [tx_len]; exact Int.toNat_natCast _]
    refine for_it walk_range (fun i σ H' => ∃ y2 y3 y4 y5, σ = [some (.str (tx l)), some (.ref p), y2, y3, y4, y5] ∧ Same H H' ∧ H' p = some (.lst (((prs l i).map tx).map V.str))) ⟨_, _, _, _, rfl, same_upd np, upd_same⟩ (fun _ _ _ _ _ => trivial) ?_ ?_
    · rintro i v σ H1 H2 hi ⟨y2, y3, y4, y5, rfl, s1, e1⟩ ⟨rfl, rfl⟩
      refine ⟨_, rfl, _, _, rfl, rfl, _, rfl, _, rfl, hz, _, _, rfl, ⟨by omega, by omega, by rw [tx_len]; omega, by rw [tx_len]; omega⟩, ?_⟩
      rw [show ((((tx l).length : Nat) : Int) - (0 + (i : Int) + 1)).toNat = l.length - (i + 1) by rw [tx_len]; omega]
      have hpl := prs_len l i
      refine for_it walk_range (fun j σ H' => ∃ y3 y4 y5, σ = [some (.str (tx l)), some (.ref p), some (.int (0 + (i : Int))), y3, y4, y5] ∧ Same H H' ∧ H' p = some (.lst (((prs l i ++ prI l i j).map tx).map V.str))) ⟨_, _, _, rfl, s1, by rw [e1]; simp [prI]⟩ (fun _ _ _ _ _ => trivial) ?_ ?_
      · rintro j v σ H3 H4 hj ⟨y3, y4, y5, rfl, s3, e3⟩ ⟨rfl, rfl⟩
        have hk : i + 1 + j < l.length := by omega
        have mx : l[i] ∈ l := List.getElem_mem hi
        have my : l[i + 1 + j] ∈ l := List.getElem_mem hk
        have ax : atI (tx l).cps.toList (0 + (i : Int)) = some l[i] := by
          rw [tx_list, show (0 + (i : Int)) = ((i : Nat) : Int) by omega]
          exact atI_nat (List.getElem?_eq_getElem hi)
        have ay : atI (tx l).cps.toList (0 + (i : Int) + 1 + (j : Int)) = some l[i + 1 + j] := by
          rw [tx_list, show (0 + (i : Int) + 1 + (j : Int)) = ((i + 1 + j : Nat) : Int) by omega]
          exact atI_nat (List.getElem?_eq_getElem hk)
        generalize hX : l[i] = x at mx ax
        generalize hY : l[i + 1 + j] = y at my ay
        have ux : Txt.upper (⟨#[x]⟩ : Str) = sg (upc x) := upper_tx (l := [x]) (fun c hc => by simp at hc; rw [hc]; exact g.asc x mx)
        have uy : Txt.upper (⟨#[y]⟩ : Str) = sg (upc y) := upper_tx (l := [y]) (fun c hc => by simp at hc; rw [hc]; exact g.asc y my)
        refine ⟨_, rfl, _, rfl, _, _, x, rfl, rfl, hz, ax, _, rfl, _, rfl, _, _, x, rfl, rfl, hz, ax, ⟨_, rfl⟩, _, rfl, rfl, by show 1 ≤ 5592405; decide, by show 2 ≤ sizeLine; decide, fun T nT => ⟨T, rfl, ⟨_, SqT.of upd_same⟩, ?_⟩⟩
        rw [ux]
        have npT : p ≠ T := ne_of_none e3 nT
        refine for_it (walk_tup (K := K) (a := T) (xs := [x, upc x].map fun e => V.str (sg e))) (fun t σ H' => ∃ y4 y5, σ = [some (.str (tx l)), some (.ref p), some (.int (0 + (i : Int))), some (.int (0 + (i : Int) + 1 + (j : Int))), y4, y5] ∧ Same H H' ∧
          SqT K H' T ([x, upc x].map fun e => V.str (sg e)) ∧ H' p = some (.lst (((prs l i ++ prI l i j ++ ([x, upc x].take t).flatMap fun f => sec f y).map tx).map V.str)))
          ⟨_, _, rfl, sm_upd s3 nT, SqT.of upd_same, by rw [upd_ne npT, e3]; simp⟩ (fun t σ H' _ h => by obtain ⟨_, _, _, _, h, _⟩ := h; exact h) ?_ ?_
        · rintro t v σ H5 H6 ht ⟨y4, y5, rfl, s5, hT5, e5⟩ ⟨rfl, hv⟩
          rw [List.getElem?_map] at hv
          obtain ⟨f, hf, rfl⟩ := Option.map_eq_some_iff.mp hv
          refine ⟨_, rfl, .inl ⟨rfl, _, SqL.of e5⟩, _, rfl, _, rfl, _, _, y, rfl, rfl, hz, ay, _, rfl, _, rfl, _, _, y, rfl, rfl, hz, ay, ⟨_, rfl⟩, _, rfl, rfl, by show 1 ≤ 5592405; decide, by show 2 ≤ sizeLine; decide, fun T2 nT2 => ⟨T2, rfl, ⟨_, SqT.of upd_same⟩, fun D nD => ?_⟩⟩
          rw [uy] at nD ⊢
          have eT2 : (upd H6 T2 (.tup [.str ⟨#[y]⟩, .str (sg (upc y))])) T2 = some (.tup ([y, upc y].map fun e => V.str (sg e))) := upd_same
          have s6 : Same H6 (upd H6 T2 (.tup [.str ⟨#[y]⟩, .str (sg (upc y))])) := same_upd nT2
          generalize (upd H6 T2 (.tup [.str ⟨#[y]⟩, .str (sg (upc y))])) = H7 at nD eT2 s6 ⊢
          refine lc_it (walk_tup (K := K) (a := T2) (xs := [y, upc y].map fun e => V.str (sg e))) (fun u H' => Same H7 H' ∧ H' D = some (.lst (((([y, upc y].take u).map fun s => [f, s]).map tx).map V.str))) ⟨same_upd nD, upd_same⟩ (fun u H' _ h => SqT.of (h.1 _ _ eT2)) ?_ ?_
          · rintro u v H8 H9 hu ⟨s8, e8⟩ ⟨rfl, hv⟩
            rw [List.getElem?_map] at hv
            obtain ⟨c, hc, rfl⟩ := Option.map_eq_some_iff.mp hv
            refine ⟨rfl, yes_i ⟨_, rfl, _, rfl, _, _, rfl, rfl, by show 1 + 1 ≤ sizeLine; decide, _, e8, ?_, sm_over s8 nD, ?_⟩⟩
            · rw [List.length_map, List.length_map, List.length_map, List.length_take, sizeLine_eq]
              have hu2 : u < 2 := hu
              omega
            · rw [upd_same, List.take_add_one, hc, List.map_append, List.map_append, List.map_append, sg_tx, sg_tx, tx_app]
              rfl
          · rintro H8 ⟨s8, e8⟩
            have e58 : H8 p = _ := s8 _ _ (s6 _ _ e5)
            have hsum : (prs l i ++ prI l i j ++ ([x, upc x].take t).flatMap fun f => sec f y).length ≤ 700 := by
              rw [List.length_append, List.length_append, prI_len]
              have h2 : (([x, upc x].take t).flatMap fun f => sec f y).length ≤ 4 := by
                have ht2 : t < 2 := ht
                have : t = 0 ∨ t = 1 := by omega
                rcases this with rfl | rfl
                · simp
                · simp [sec]
              have h3 : 4 * l.length * i ≤ 4 * 12 * 12 := Nat.mul_le_mul (Nat.mul_le_mul_left _ hi12) (by omega)
              omega
            refine ⟨p, D, _, _, rfl, rfl, e58, e8, ?_, ?_⟩
            · rw [List.length_map, List.length_map, List.length_map, List.length_map, List.length_map, sizeLine_eq]
              show _ + 2 ≤ _
              omega
            · refine ⟨_, _, rfl, sm_over (sm_trans (sm_trans s5 s6) s8) np, ?_, ?_⟩
              · have hT8 := sm_t s8 (sm_t s6 hT5)
                have ntp : ∀ o, H8 T = some o → (∀ z, o ≠ .lst z) → T ≠ p := fun o ho hz2 => ne_of ho e58 (hz2 _)
                rcases hT8 with (z | ⟨o, z⟩) | z
                · exact .inl (.inl (by rw [upd_ne (ntp _ z fun q e => by cases e)]; exact z))
                · exact .inl (.inr ⟨o, by rw [upd_ne (ntp _ z fun q e => by cases e)]; exact z⟩)
                · exact .inr z
              · rw [upd_same, List.take_add_one, hf, List.flatMap_append, ← List.map_append, ← List.map_append, List.append_assoc (prs l i ++ prI l i j)]
                simp [sec]
        · rintro σ H5 ⟨y4, y5, rfl, s5, _, e5⟩
          refine ⟨_, _, _, rfl, s5, ?_⟩
          rw [e5]
          have ej : prI l i (j + 1) = prI l i j ++ pr2 x y := by
            unfold prI
            rw [List.range_succ, List.flatMap_append]
            simp only [List.flatMap_cons, List.flatMap_nil, List.append_nil]
            rw [getD_of hi, getD_of hk, hX, hY]
          rw [ej, List.append_assoc]
          rfl
      · rintro σ H3 ⟨y3, y4, y5, rfl, s3, e3⟩
        refine ⟨_, _, _, _, rfl, s3, ?_⟩
        rw [e3]
        have ei : prs l (i + 1) = prs l i ++ prI l i (l.length - (i + 1)) := by
          unfold prs
          rw [List.range_succ, List.flatMap_append]
          simp
        rw [ei]
    · rintro σ H1 ⟨y2, y3, y4, y5, rfl, s1, e1⟩
      exact ⟨_, rfl, q H1 p s1 np e1⟩
end
end NC
namespace NC
open PySem PySem.Spec PyProof.Rows L2
abbrev sOth : Stmt := topS 85
abbrev sWithin : Stmt := topS 86
abbrev sAll : Stmt := topS 88
abbrev sRooms : Stmt := topS 89
theorem scOth : FnScope ["_law_side"] ["_law_side"] (defScope sOth) := ⟨rfl, rfl, rfl, by decide +kernel, rfl, by decide +kernel, by decide +kernel⟩
theorem scWithin : FnScope ["_law_sides", "_law_room", "_law_side"] ["_law_sides", "_law_room"] (defScope sWithin) := ⟨rfl, rfl, rfl, by decide +kernel, rfl, by decide +kernel, by decide +kernel⟩
theorem scAll : FnScope ["_law_shuts_here", "_law_found", "_law_shut", "_law_longer", "_law_begun_it"] ["_law_shuts_here"] (defScope sAll) := ⟨rfl, rfl, rfl, by decide +kernel, rfl, by decide +kernel, by decide +kernel⟩
theorem scRooms : FnScope ["_law_shuts_here", "_law_bars", "_law_room", "_law_bar"] ["_law_shuts_here", "_law_bars"] (defScope sRooms) := ⟨rfl, rfl, rfl, by decide +kernel, rfl, by decide +kernel, by decide +kernel⟩
theorem isup_sg : ∀ c : Nat, c < 128 → Txt.isupper (sg c) = decide (65 ≤ c ∧ c ≤ 90) := by
  have h : ∀ c : Fin 128, Txt.isupper (sg c.val) = decide (65 ≤ c.val ∧ c.val ≤ 90) := by decide +kernel
  exact fun c hc => h ⟨c, hc⟩
section
variable {P : Program} {w : World} {K : PySem.W.Frag} {mg : Str → Option Value} {base : Heap}
def spOth : Sp := fun vs H Q _ => ∃ c, vs = [.str (sg c)] ∧ isLt c ∧ Q (.str (sg (swp c))) H
theorem ok_oth {f : Addr} {fd : FuncData} {k : Nat} (F : Fun K "_law_other" "_law_other" sOth f fd) : FnOk P w K mg base CX0 (k + 1) f fd ["_law_side"] spOth := by
  refine F.ok scOth (fun vs H Q E h => ?_) (fun cdv A outer s H vs Q E hr h => ?_)
  · obtain ⟨c, rfl, _⟩ := h
    rfl
  · obtain ⟨c, rfl, hc, q⟩ := h
    refine ⟨_, pss_one (ps_ret (pe_ifExp (pt_val (pe_m0 PySem.F.slot_str_isupper PySem.F.type_str_isupper mt_isupper (pv 0))) (pe_lower (pv 0)) (pe_upper (pv 0)))), ?_⟩
    refine ⟨_, rfl, ⟨_, rfl⟩, _, rfl, rfl, trivial, _, rfl, ?_⟩
    have a1 : ∀ e ∈ [c], e < 128 := fun e he => by rw [List.mem_singleton.mp he]; exact hc.asc
    rw [isup_sg c hc.asc]
    refine ite2 (fun t => ?_) (fun t => ?_)
    · have t := of_decide_eq_true t
      refine ⟨_, rfl, ⟨_, rfl⟩, _, rfl, rfl, by show 1 ≤ 5592405; decide, ?_⟩
      rw [show Txt.lower (sg c) = tx [lwc c] from lower_tx (l := [c]) a1, show lwc c = swp c by rw [swp_great t]; unfold lwc; rw [if_pos t]]
      exact q
    · have t : ¬ (65 ≤ c ∧ c ≤ 90) := fun z => t (decide_eq_true z)
      have h1 : 97 ≤ c ∧ c ≤ 122 := hc.elim id fun z => absurd z t
      refine ⟨_, rfl, ⟨_, rfl⟩, _, rfl, rfl, by show 1 ≤ 5592405; decide, ?_⟩
      rw [show Txt.upper (sg c) = tx [upc c] from upper_tx (l := [c]) a1, show upc c = swp c by rw [swp_small h1, upc_small h1]]
      exact q
def spWithin : Sp := fun vs H Q _ => ∃ b r, vs = [.str (tx b), .str (tx r)] ∧ b.length ≤ 100 ∧ ∀ H', Same H H' → Q (.bl (inR b r)) H'
theorem ok_within {f : Addr} {fd : FuncData} {k : Nat} (B : BM mg) (F : Fun K "_law_within" "_law_within" sWithin f fd) : FnOk P w K mg base CX0 (k + 1) f fd ["_law_sides", "_law_room"] spWithin := by
  refine F.ok scWithin (fun vs H Q E h => ?_) (fun cdv A outer s H vs Q E hr h => ?_)
  · obtain ⟨b, r, rfl, _⟩ := h
    rfl
  · obtain ⟨b, r, rfl, hbl, q⟩ := h
    refine ⟨_, pss_one (ps_ret (pe_callB (cr_all rfl) (by rfl) B.all (by decide +kernel) (pa_cons (pe_lc (own := [("_law_side", 2)]) (g := gName 2) (tt := tYes) rfl scWithin.nd (pi_str (pv 0))
      (blkOk_by (N := ["_law_sides", "_law_room", "_law_side"]) (sc := defScope sWithin) (by decide +kernel)) (fun _ _ _ _ _ => pg_name (i := 2) scWithin.nd rfl (Or.inl rfl)) (fun _ _ _ _ _ => pts_nil)
      (fun _ _ _ _ _ => pe_cmpR op_in_sign (pv 2) (pv 1) (by rfl))) pa_nil))), ?_⟩
    refine ⟨_, rfl, tx b, rfl, fun D nD => ?_⟩
    have lz : (tx b).cps.size = b.length := tx_len _
    refine lc_it walk_str (fun i H' => Same H H' ∧ H' D = some (.lst (((b.take i).map fun s => decide (s ∈ r)).map V.bl))) ⟨same_upd nD, upd_same⟩ (fun _ _ _ _ => trivial) ?_ ?_
    · rintro i x H1 H2 hi ⟨s1, e1⟩ ⟨rfl, c, hc, rfl⟩
      have hcl : b[i]? = some c := by
        rw [← Array.getElem?_toList, tx_list] at hc
        exact hc
      refine ⟨rfl, yes_i ⟨_, rfl, _, rfl, c, tx r, rfl, rfl, ?_⟩⟩
      rw [tx_list]
      refine ⟨_, e1, ?_, sm_over s1 nD, ?_⟩
      · rw [List.length_map, List.length_map, List.length_take, sizeLine_eq]
        omega
      · rw [upd_same, List.take_add_one, hcl, List.map_append, List.map_append]
        rfl
    · rintro H1 ⟨s1, e1⟩
      rw [lz, List.take_length] at e1
      refine ⟨_, _, rfl, SqL.of e1, ?_⟩
      rw [show (b.map fun s => decide (s ∈ r)).all id = inR b r by unfold inR; rw [List.all_map]; rfl]
      exact q _ s1
def spAll : Sp := fun vs H Q _ => ∃ l, vs = [.str (tx l)] ∧ GoodW l ∧ ∀ H' p, Same H H' → H p = none → H' p = some (.lst (((allT l l.length).map tx).map V.str)) → Q (.ref p) H'
theorem allT_lens (l : List Nat) : ∀ k r, r ∈ allT l k → r.length = k
  | 0, r, h => by rw [List.mem_singleton.mp h]; rfl
  | k + 1, r, h => by
    obtain ⟨q, hq, hr⟩ := List.mem_flatMap.mp h
    have := allT_lens l k q hq
    simp only [List.mem_cons, List.not_mem_nil, or_false] at hr
    rcases hr with rfl | rfl <;> simp [this]
theorem pow12 {k : Nat} (h : k ≤ 12) : 2 ^ k ≤ 4096 := Nat.le_trans (Nat.pow_le_pow_right (by decide) h) (by decide)
set_option maxHeartbeats 1000000 in
theorem ok_all {f : Addr} {fd : FuncData} {k : Nat} (F : Fun K "_law_all" "_law_all" sAll f fd) : FnOk P w K mg base CX0 (k + 1) f fd ["_law_shuts_here"] spAll := by
  refine F.ok scAll (fun vs H Q E h => ?_) (fun cdv A outer s H vs Q E hr h => ?_)
  · obtain ⟨l, rfl, _⟩ := h
    rfl
  · obtain ⟨l, rfl, g, q⟩ := h
    have nd := scAll.nd
    have hl12 := g.hi
    refine ⟨_, pss_cons (ps_set (i := 1) nd rfl (.inl rfl) (pe_lst (pa_cons pe_str pa_nil)))
      (pss_cons (ps_for PassesOwn.never rfl (pi_str (pv 0)) (pg_name (i := 2) nd rfl (.inl rfl))
        (pss_cons (ps_set (i := 3) nd rfl (.inl rfl) (pe_lst pa_nil))
        (pss_cons (ps_for PassesOwn.never rfl (pi_list (pv 1)) (pg_name (i := 4) nd rfl (.inl rfl))
          (pss_one (ps_expr (pe_bm PySem.F.plainAttrs_list PySem.F.slot_list_extend PySem.F.type_list_extend mt_extend (pv 3) (pa_cons (pe_lst (pa_cons (pe_op op_add_str (pv 4) (pe_upper (pv 2))) (pa_cons (pe_op op_add_str (pv 4) (pv 2)) pa_nil))) pa_nil)))))
        (pss_one (ps_set (i := 1) nd rfl (.inl rfl) (pv 3))))))
      (pss_one (ps_ret (pv 1)))), ?_⟩
    refine ⟨by show 1 ≤ sizeLine; decide, fun p0 np0 => ?_⟩
    have lz : (tx l).cps.size = l.length := tx_len _
    refine ⟨_, rfl, tx l, rfl, ?_⟩
    refine for_it walk_str (fun i σ H' => ∃ (p : Addr) (y2 y3 y4 : Option V), σ = [some (.str (tx l)), some (.ref p), y2, y3, y4] ∧ Same H H' ∧ H p = none ∧ H' p = some (.lst (((allT l i).map tx).map V.str)))
      ⟨p0, _, _, _, rfl, same_upd np0, np0, by rw [upd_same, str0]; rfl⟩ (fun _ _ _ _ _ => trivial) ?_ ?_
    · rintro i x σ H1 H2 hi ⟨p, y2, y3, y4, rfl, s1, np, e1⟩ ⟨rfl, c, hc, rfl⟩
      rw [lz] at hi
      have hcl : l[i]? = some c := by
        rw [← Array.getElem?_toList, tx_list] at hc
        exact hc
      have hca : c < 128 := g.asc c (List.mem_of_getElem? hcl)
      have ecg : l.getD i 0 = c := by rw [List.getD_eq_getElem?_getD, hcl]; rfl
      have uc : Txt.upper (⟨#[c]⟩ : Str) = sg (upc c) := upper_tx (l := [c]) (fun e he => by rw [List.mem_singleton.mp he]; exact hca)
      refine ⟨Nat.zero_le _, fun L nL => ?_⟩
      have npL : p ≠ L := ne_of_none e1 nL
      have nLH : H L = none := L2.Same.free s1 nL
      have wk := walk_list (K := K) (a := p) (xs := ((allT l i).map tx).map V.str)
      rw [List.length_map, List.length_map] at wk
      have tl := allT_len l i
      have tp := pow12 (Nat.le_trans (Nat.le_of_lt hi) hl12)
      refine ⟨_, rfl, p, rfl, ⟨_, SqL.of (by rw [upd_ne npL]; exact e1)⟩, ?_⟩
      refine for_it wk (fun j σ H' => ∃ (y4 : Option V), σ = [some (.str (tx l)), some (.ref p), some (.str ⟨#[c]⟩), some (.ref L), y4] ∧ Same H H' ∧ H' p = some (.lst (((allT l i).map tx).map V.str)) ∧
        H' L = some (.lst (((((allT l i).take j).flatMap fun r => [r ++ [upc c], r ++ [c]]).map tx).map V.str))) ⟨_, rfl, sm_upd s1 nL, by rw [upd_ne npL]; exact e1, upd_same⟩ (fun j σ H' _ h => by obtain ⟨_, _, _, h, _⟩ := h; exact SqL.of h) ?_ ?_
      · rintro j x σ H3 H4 hj ⟨y4, rfl, s3, e3, eL⟩ ⟨rfl, hx⟩
        rw [List.getElem?_map, List.getElem?_map] at hx
        obtain ⟨z, hz, rfl⟩ := Option.map_eq_some_iff.mp hx
        obtain ⟨r, hr2, rfl⟩ := Option.map_eq_some_iff.mp hz
        have rl := allT_lens l i r (List.mem_of_getElem? hr2)
        have bnd : (tx r).length + 1 ≤ sizeLine := by rw [tx_len, sizeLine_eq]; omega
        have fl : (((allT l i).take j).flatMap fun r => [r ++ [upc c], r ++ [c]]).length ≤ 2 * 4096 := by
          have h : ∀ xs : List (List Nat), (xs.flatMap fun r => [r ++ [upc c], r ++ [c]]).length = 2 * xs.length := fun xs => by
            induction xs with
            | nil => rfl
            | cons x r ih =>
              have e : (x :: r).length = r.length + 1 := rfl
              rw [List.flatMap_cons, List.length_append, ih, e]
              show 2 + 2 * r.length = _
              omega
          rw [h, List.length_take]
          omega
        refine ⟨_, rfl, .inl ⟨rfl, _, SqL.of eL⟩, _, rfl, _, rfl, ⟨_, rfl⟩, _, rfl, rfl, by show 1 ≤ 5592405; decide, ?_⟩
        rw [uc]
        refine ⟨_, _, rfl, rfl, bnd, _, rfl, _, rfl, _, _, rfl, rfl, bnd, by show 2 ≤ sizeLine; decide, fun T nT => ?_⟩
        have nLT : L ≠ T := ne_of_none eL nT
        refine ⟨L, T, _, _, rfl, rfl, by rw [upd_ne nLT]; exact eL, upd_same, by rw [List.length_map, List.length_map, sizeLine_eq]; show _ + 2 ≤ _; omega, ?_⟩
        have npT : p ≠ T := ne_of_none e3 nT
        refine ⟨_, rfl, sm_over (sm_upd s3 nT) nLH, by rw [upd_ne npL, upd_ne npT]; exact e3, ?_⟩
        rw [upd_same, List.take_add_one, hr2, List.flatMap_append, List.map_append, List.map_append]
        show some (HO.lst (_ ++ [V.str (tx r ++ sg (upc c)), V.str (tx r ++ sg c)])) = some (HO.lst (_ ++ _))
        rw [sg_tx, sg_tx, tx_app, tx_app]
        simp
      · rintro σ H3 ⟨y4, rfl, s3, e3, eL⟩
        rw [List.take_length] at eL
        refine ⟨_, rfl, L, _, _, _, rfl, s3, nLH, ?_⟩
        rw [eL]
        show _ = some (HO.lst ((((allT l i).flatMap fun r => [r ++ [upc (l.getD i 0)], r ++ [l.getD i 0]]).map tx).map V.str))
        rw [ecg]
    · rintro σ H1 ⟨p, y2, y3, y4, rfl, s1, np, e1⟩
      rw [lz] at e1
      exact ⟨_, rfl, q H1 p s1 np e1⟩
end
end NC
namespace NC
open PySem PySem.Spec PyProof.Rows L2
section
variable {P : Program} {w : World} {K : PySem.W.Frag} {mg : Str → Option Value} {base : Heap}
def scpR : Scope := { kind := .function, names := [(".0", .local), ("_law_room", .cell), ("any", .globalImplicit), ("_law_bars", .cell)], isGenerator := false, isCoroutine := false }
def tInR (K : PySem.W.Frag) : TE := tCB (rAny K) (tCons (tLc (iList K (tVar 1)) (gName 3) tYes (tCall spWithin [] E0 (tCons (tVar 3) (tCons (tVar 2) tNil))) [3]) tNil)
def spRooms (K : PySem.W.Frag) : Sp := fun vs H Q _ => ∃ l a bs, vs = [.str (tx l), .ref a] ∧ GoodW l ∧ SqL K H a ((bs.map tx).map V.str) ∧ (∀ b ∈ bs, b.length ≤ 100) ∧ bs.length ≤ 100 ∧ ∀ H' p, Same H H' → H p = none → H' p = some (.lst (((rms l bs).map tx).map V.str)) → Q (.ref p) H'
set_option maxHeartbeats 1000000 in
theorem ok_rooms {f fA fW : Addr} {fd fdA fdW : FuncData} {k : Nat} (B : BM mg) (hany : mg "any" = none) (F : Fun K "_law_rooms" "_law_rooms" sRooms f fd) (Al : DF K mg "_law_all" sAll ["_law_shuts_here"] fA fdA) (W : DF K mg "_law_within" sWithin ["_law_sides", "_law_room"] fW fdW) :
    FnOk P w K mg base CX0 (k + 2) f fd ["_law_shuts_here", "_law_bars"] (spRooms K) := by
  have GA : FnOk P w K mg base CX0 (k + 1) fA fdA ["_law_shuts_here"] spAll := ok_all Al.F
  have GW : FnOk P w K mg base CX0 (k + 1) fW fdW ["_law_sides", "_law_room"] spWithin := ok_within B W.F
  refine F.ok scRooms (fun vs H Q E h => ?_) (fun cdv A outer s H vs Q E hr h => ?_)
  · obtain ⟨l, a, bs, rfl, _⟩ := h
    rfl
  · obtain ⟨l, a, bs, rfl, g, hS, hbl, hbn, q⟩ := h
    have nd := scRooms.nd
    refine ⟨_, pss_one (ps_ret (pe_lc (own := [("_law_room", 2)]) (g := gName 2) (tt := tNot (tB (tInR K))) rfl nd (pi_list (pe_call GA hr rfl Al.g Al.F.kp Al.b .nil pass0 (pa_cons (pv 0) pa_nil)))
      (blkOk_by (N := ["_law_shuts_here", "_law_bars", "_law_room", "_law_bar"]) (sc := defScope sRooms) (by decide +kernel)) (fun _ _ _ _ _ => pg_name (i := 2) nd rfl (Or.inr rfl))
      (fun _ _ _ _ _ => pts_one (pt_not (pt_val (pe_callB (cr_any rfl) (by rfl) hany (by decide +kernel) (pa_cons (pe_lc (own := [("_law_bar", 3)]) (g := gName 3) (tt := tYes) (te := tCall spWithin [] E0 (tCons (tVar 3) (tCons (tVar 2) tNil))) rfl nd (pi_list (pv 1))
        (blkOk_by (N := ["_law_shuts_here", "_law_bars", "_law_room", "_law_bar"]) (sc := scpR) (by decide +kernel)) (fun _ _ _ _ _ => pg_name (i := 3) nd rfl (Or.inl rfl)) (fun _ _ _ _ _ => pts_nil)
        (fun _ _ _ _ _ => pe_call GW hr rfl W.g W.F.kp W.b .nil pass0 (pa_cons (pv 3) (pa_cons (pv 2) pa_nil)))) pa_nil))))) (fun _ _ _ _ _ => pv 2))), ?_⟩
    refine ⟨_, rfl, l, rfl, g, fun H1 pA s1 npA eA => ⟨pA, rfl, ⟨_, SqL.of eA⟩, fun D nD => ?_⟩⟩
    have nDH : H D = none := L2.Same.free s1 nD
    have wk := walk_list (K := K) (a := pA) (xs := ((allT l l.length).map tx).map V.str)
    rw [List.length_map, List.length_map] at wk
    have tl := allT_len l l.length
    have tp := pow12 g.hi
    refine lc_it wk (fun j H' => Same H1 H' ∧ H' D = some (.lst (((((allT l l.length).take j).filter fun r => !bs.any fun b => inR b r).map tx).map V.str))) ⟨same_upd nD, upd_same⟩ (fun j H' _ h => SqL.of (h.1 _ _ eA)) ?_ ?_
    · rintro j x G2 G3 hj ⟨u2, e2⟩ ⟨rfl, hx⟩
      rw [List.getElem?_map, List.getElem?_map] at hx
      obtain ⟨z, hz, rfl⟩ := Option.map_eq_some_iff.mp hx
      obtain ⟨r, hr2, rfl⟩ := Option.map_eq_some_iff.mp hz
      have tk : (allT l l.length).take (j + 1) = (allT l l.length).take j ++ [r] := by rw [List.take_add_one, hr2]; rfl
      have hS3 := sm_l (sm_trans s1 u2) hS
      have wkb := walk_list (K := K) (a := a) (xs := (bs.map tx).map V.str)
      rw [List.length_map, List.length_map] at wkb
      refine ⟨rfl, _, rfl, a, rfl, ⟨_, hS3⟩, fun Da na => ?_⟩
      refine lc_it wkb (fun u H' => Same G3 H' ∧ H' Da = some (.lst (((bs.take u).map fun b => inR b r).map V.bl))) ⟨same_upd na, upd_same⟩ (fun u H' _ h => sm_l h.1 hS3) ?_ ?_
      · rintro u x G5 G6 hu ⟨u5, ea⟩ ⟨rfl, hx⟩
        rw [List.getElem?_map, List.getElem?_map] at hx
        obtain ⟨z, hz, rfl⟩ := Option.map_eq_some_iff.mp hx
        obtain ⟨b, hb1, rfl⟩ := Option.map_eq_some_iff.mp hz
        refine ⟨rfl, yes_i ⟨_, rfl, _, rfl, b, r, rfl, hbl b (List.mem_of_getElem? hb1), fun G7 u7 => ⟨_, u7 _ _ ea, ?_, sm_over (sm_trans u5 u7) na, ?_⟩⟩⟩
        · rw [List.length_map, List.length_map, List.length_take, sizeLine_eq]
          omega
        · rw [upd_same, List.take_add_one, hb1, List.map_append, List.map_append]
          rfl
      · rintro G5 ⟨u5, ea⟩
        rw [List.take_length] at ea
        refine ⟨Da, _, rfl, SqL.of ea, _, rfl, ?_⟩
        rw [show (bs.map fun b => inR b r).any id = bs.any fun b => inR b r by rw [List.any_map]; rfl]
        refine ite2 (fun t => ⟨_, rfl, _, u5 _ _ e2, ?_, sm_over (sm_trans u2 u5) nD, ?_⟩) (fun t => ⟨sm_trans u2 u5, ?_⟩)
        · rw [List.length_map, List.length_map, sizeLine_eq]
          have h1 : (((allT l l.length).take j).filter fun r => !bs.any fun b => inR b r).length ≤ 4096 := Nat.le_trans (List.length_filter_le _ _) (by rw [List.length_take]; omega)
          omega
        · rw [upd_same, tk, List.filter_append, List.filter_cons, if_pos t]
          simp
        · rw [u5 _ _ e2, tk, List.filter_append, List.filter_cons, if_neg t]
          simp
    · rintro G2 ⟨u2, e2⟩
      rw [List.take_length] at e2
      exact q G2 D (sm_trans s1 u2) nDH e2
end
end NC
namespace NC
open PySem PySem.Spec PyProof.Rows L2
open Classical in
noncomputable def foC (l : List Nat) (bs : List (List Nat)) (s : Nat) : List Nat := (sds l).filter fun t => decide (Frc (adjOf bs) s t)
open Classical in
theorem foC_mem {l : List Nat} (g : GoodW l) {bs : List (List Nat)} (hb : ∀ b ∈ bs, isBar l b = true) : ∀ s ∈ sds l, ∀ t, t ∈ foC l bs s ↔ Frc (adjOf bs) s t := fun s hs t => by
  unfold foC
  rw [List.mem_filter]
  exact ⟨fun h => of_decide_eq_true h.2, fun h => ⟨Frc.mem g hb hs h, decide_eq_true h⟩⟩
/-- the hall is let by -/
def Okv (l : List Nat) (bs : List (List Nat)) : Prop := ∀ fo : Nat → List Nat, (∀ s ∈ sds l, ∀ t, t ∈ fo s ↔ Frc (adjOf bs) s t) → vdOf (sds l) (fxP fo) (alP fo) = .ok
theorem vd_ok {L : List Nat} {fx : Nat → Bool} {al : Nat → Nat → Bool} (h1 : ∀ s ∈ L, fx s = false) (h2 : ∀ s ∈ L, ∀ t ∈ L, al s t = false) : vdOf L fx al = .ok := by
  unfold vdOf
  rw [List.find?_eq_none.mpr fun s hs => by rw [h1 s hs]; decide]
  have e : (L.findSome? fun s => (L.find? (al s)).map fun t => (s, t)) = none := List.findSome?_eq_none_iff.mpr fun s hs => by
    rw [List.find?_eq_none.mpr fun t ht => by rw [h2 s hs t ht]; decide]
    rfl
  rw [e]
theorem okv_nil {l : List Nat} (g : GoodW l) : Okv l [] := fun fo hf => by
  have one : ∀ {s t : Nat}, Frc (adjOf []) s t → t = s := fun {s t} h => h.ind (p := fun x => x = s) rfl fun a b _ k => absurd k (by simp [adjOf])
  refine vd_ok (fun s hs => ?_) (fun s hs t ht => ?_)
  · refine decide_eq_false fun z => ?_
    have e := one ((hf s hs _).mp z)
    rcases sds_lt g hs with q | q
    · rw [swp_small q] at e
      omega
    · rw [swp_great q] at e
      omega
  · unfold alP
    by_cases h : t ∈ fo s
    · have e := one ((hf s hs t).mp h)
      simp [e]
    · simp [h]
structure Fine (l : List Nat) (rs : List (List Nat)) : Prop where
  has : ∀ c ∈ l, (∃ r ∈ rs, c ∈ r) ∧ ∃ r ∈ rs, c ∉ r
  apart : ∀ x y, isBar l [x, y] = true → ∃ r ∈ rs, inR [x, y] r = true ∨ inR [swp x, swp y] r = true
theorem Fine.ok {l : List Nat} (g : GoodW l) {bs : List (List Nat)} (hb : ∀ b ∈ bs, isBar l b = true) (F : Fine l (rms l bs)) : Okv l bs := fun fo hf => by
  have mr := rms_mem g hb
  rw [vd_same g hb hf (foC_mem g hb)]
  have ne : rms l bs ≠ [] := fun z => by
    obtain ⟨c, hc⟩ : ∃ c, c ∈ l := by
      have := g.lo
      cases l with
      | nil => exact absurd this (by decide)
      | cons c r => exact ⟨c, List.mem_cons_self ..⟩
    obtain ⟨⟨r, hr, _⟩, _⟩ := F.has c hc
    rw [z] at hr
    cases hr
  have other : ∀ {s : Nat} {r : List Nat}, s ∈ sds l → r ∈ rms l bs → (s ∉ r ↔ swp s ∈ r) := fun {s r} hs hr => by
    obtain ⟨p, rfl, _⟩ := (mr r).mp hr
    rw [rm_mem g hs, rm_mem g (sds_swp g hs), val_swp (sds_lt g hs)]
    cases val p s <;> simp
  refine vd_ok (fun s hs => ?_) (fun s hs t ht => ?_)
  · unfold fxL
    rw [if_neg ne]
    have : ∃ r ∈ rms l bs, s ∈ r := by
      rcases sds_shape g hs with z | z
      · exact (F.has s z.2.2).1
      · obtain ⟨_, r, hr, hn⟩ := F.has (s + 32) z.2.2
        refine ⟨r, hr, ?_⟩
        have := (other (sds_of_small z.2.2) hr).mp hn
        rw [swp_small (by omega), show s + 32 - 32 = s by omega] at this
        exact this
    obtain ⟨r, hr, hsr⟩ := this
    rw [show ((rms l bs).any fun r => decide (s ∈ r)) = true from List.any_eq_true.mpr ⟨r, hr, decide_eq_true hsr⟩]
    rfl
  · unfold alL
    by_cases e : lwc s = lwc t
    · rw [e]; simp
    · have main : ∃ r ∈ rms l bs, (s ∈ r ∧ t ∉ r) ∨ (s ∉ r ∧ t ∈ r) := by
        have hst := sds_swp g ht
        have lt2 : lwc (swp t) = lwc t := by
          rcases sds_lt g ht with q | q
          · rw [swp_small q]
            unfold lwc
            rw [if_pos (by omega), if_neg (by omega)]
            omega
          · rw [swp_great q]
            unfold lwc
            rw [if_neg (by omega), if_pos q]
        have fin : ∀ r ∈ rms l bs, (s ∈ r ∧ swp t ∈ r) ∨ (swp s ∈ r ∧ t ∈ r) → (s ∈ r ∧ t ∉ r) ∨ (s ∉ r ∧ t ∈ r) := fun r hr h => h.imp (fun z => ⟨z.1, (other ht hr).mpr z.2⟩) (fun z => ⟨(other hs hr).mpr z.1, z.2⟩)
        have bar : ∀ {x y : Nat}, x ∈ sds l → y ∈ sds l → lwc x < lwc y → isBar l [x, y] = true := fun {x y} hx hy h => by
          show (decide (x ∈ sds l) && (decide (y ∈ sds l) && decide (lwc x < lwc y))) = true
          rw [decide_eq_true hx, decide_eq_true hy, decide_eq_true h]
          rfl
        rcases Nat.lt_or_ge (lwc s) (lwc t) with h | h
        · obtain ⟨r, hr, z⟩ := F.apart s (swp t) (bar hs hst (by rw [lt2]; exact h))
          refine ⟨r, hr, fin r hr (z.imp (fun z => ?_) (fun z => ?_))⟩
          · simp [inR] at z
            exact z
          · rw [swp_swp (sds_lt g ht)] at z
            simp [inR] at z
            exact z
        · obtain ⟨r, hr, z⟩ := F.apart (swp t) s (bar hst hs (by rw [lt2]; omega))
          refine ⟨r, hr, fin r hr (z.imp (fun z => ?_) (fun z => ?_))⟩
          · simp [inR] at z
            exact ⟨z.2, z.1⟩
          · rw [swp_swp (sds_lt g ht)] at z
            simp [inR] at z
            exact ⟨z.2, z.1⟩
      obtain ⟨r, hr, z⟩ := main
      have : (rms l bs).all (fun r => decide (decide (s ∈ r) = decide (t ∈ r))) = false := by
        rw [List.all_eq_false]
        refine ⟨r, hr, ?_⟩
        rcases z with ⟨a, b⟩ | ⟨a, b⟩
        · simp [a, b]
        · simp [a, b]
      rw [this]
      simp
/-- may s stand behind what is begun -/
def goes (fo : Nat → List Nat) (s : Nat) (r : List Nat) : Bool := !r.any fun h => decide (swp h ∈ fo s)
def okP (fo : Nat → List Nat) : List Nat → List Nat → Bool
  | _, [] => true
  | a, s :: r => goes fo s a && okP fo (a ++ [s]) r
def okR (fo : Nat → List Nat) (r : List Nat) : Bool := okP fo [] r
end NC
namespace NC
open PySem PySem.Spec PyProof.Rows L2
abbrev sFine : Stmt := topS 90
abbrev nFine : List Str := ["_law_shuts_here", "_law_rooms_here", "_law_shut", "_law_there", "_law_pair", "_law_back", "_law_room"]
theorem scFine : FnScope nFine ["_law_shuts_here", "_law_rooms_here"] (defScope sFine) := ⟨rfl, rfl, rfl, by decide +kernel, rfl, by decide +kernel, by decide +kernel⟩
theorem inV_bl (b : Bool) (xs : List Bool) : inV (.bl b) (xs.map V.bl) = decide (b ∈ xs) := by
  unfold inV
  rw [List.any_map, Bool.eq_iff_iff, List.any_eq_true, decide_eq_true_eq]
  constructor
  · rintro ⟨x, hx, e⟩
    have e : (x == b) = true := e
    rw [← eq_of_beq e]
    exact hx
  · intro h
    exact ⟨b, h, by show (b == b) = true; simp⟩
theorem flat_bl (xs : List Bool) : (xs.map V.bl).all flatV = true := by
  rw [List.all_map]
  exact List.all_eq_true.mpr fun _ _ => rfl
theorem rms_len {l : List Nat} (g : GoodW l) {bs : List (List Nat)} : (rms l bs).length ≤ 4096 := by
  unfold rms
  refine Nat.le_trans (List.length_filter_le _ _) ?_
  rw [allT_len]
  exact pow12 g.hi
section
variable {P : Program} {w : World} {K : PySem.W.Frag} {mg : Str → Option Value} {base : Heap}
def tWith (i j : Nat) : TE := tCall spWithin [] E0 (tCons (tVar i) (tCons (tVar j) tNil))
def spFine (K : PySem.W.Frag) : Sp := fun vs H Q _ => ∃ l a rs, vs = [.str (tx l), .ref a] ∧ GoodW l ∧ SqL K H a ((rs.map tx).map V.str) ∧ rs.length ≤ 4096 ∧ ∀ H' b, Same H H' → (b = true → Fine l rs) → Q (.bl b) H'
set_option maxHeartbeats 2000000 in
theorem ok_fine {f fP fO fW : Addr} {fd fdP fdO fdW : FuncData} {k : Nat} (B : BM mg) (hany : mg "any" = none) (F : Fun K "_law_fine" "_law_fine" sFine f fd) (Pr : DF K mg "_law_pairs" sPairs ["_law_shuts_here"] fP fdP) (O : DF K mg "_law_other" sOth ["_law_side"] fO fdO) (W : DF K mg "_law_within" sWithin ["_law_sides", "_law_room"] fW fdW) :
    FnOk P w K mg base CX0 (k + 2) f fd ["_law_shuts_here", "_law_rooms_here"] (spFine K) := by
  have GP : FnOk P w K mg base CX0 (k + 1) fP fdP ["_law_shuts_here"] spPairs := ok_pairs B Pr.F
  have GO : FnOk P w K mg base CX0 (k + 1) fO fdO ["_law_side"] spOth := ok_oth O.F
  have GW : FnOk P w K mg base CX0 (k + 1) fW fdW ["_law_sides", "_law_room"] spWithin := ok_within B W.F
  refine F.ok scFine (fun vs H Q E h => ?_) (fun cdv A outer st H vs Q E hr h => ?_)
  · obtain ⟨l, a, rs, rfl, _⟩ := h
    rfl
  · obtain ⟨l, a, rs, rfl, g, hS, hrn, q⟩ := h
    have nd := scFine.nd
    refine ⟨_, pss_cons (ps_for PassesOwn.never rfl (pi_str (pv 0)) (pg_name (i := 2) nd rfl (.inr rfl))
        (pss_cons (ps_setLc (i := 3) (own := [("_law_room", 6)]) (g := gName 6) (tt := tYes) rfl nd rfl rfl (sw_true rfl rfl rfl (by decide +kernel)) (pi_list (pv 1)) (blkOk_by (N := nFine) (sc := defScope sFine) (by decide +kernel)) (fun _ _ _ _ _ => pg_name (i := 6) nd rfl (Or.inl rfl)) (fun _ _ _ _ _ => pts_nil)
          (fun _ _ _ _ _ => pe_cmpR op_in_sign (pv 2) (pv 6) (by rfl)))
        (pss_one (ps_if (PW.pt (pw_or (pt_cmpR op_notIn_seq pe_bl (pv 3) (by rfl)) (pw_or1 (pt_cmpR op_notIn_seq pe_bl (pv 3) (by rfl))))) (pss_one (ps_ret pe_bl)) pss_nil))))
      (pss_cons (ps_for PassesOwn.never rfl (pi_list (pe_call GP hr rfl Pr.g Pr.F.kp Pr.b .nil pass0 (pa_cons (pv 0) pa_nil))) (pg_name (i := 4) nd rfl (.inr rfl))
        (pss_cons (ps_set (i := 5) nd rfl (.inr rfl) (pe_op op_add_str (pe_call GO hr rfl O.g O.F.kp O.b .nil pass0 (pa_cons (pe_ix ix_str (pv 4) pe_int (fun _ _ => rfl)) pa_nil)) (pe_call GO hr rfl O.g O.F.kp O.b .nil pass0 (pa_cons (pe_ix ix_str (pv 4) pe_int (fun _ _ => rfl)) pa_nil))))
        (pss_one (ps_if (pt_not (pt_val (pe_callB (cr_any rfl) (by rfl) hany (by decide +kernel) (pa_cons (pe_lc (own := [("_law_room", 6)]) (g := gName 6) (tt := tYes) (te := tOrV (tWith 4 6) (tWith 5 6)) rfl nd (pi_list (pv 1)) (blkOk_by (N := nFine) (sc := defScope sFine) (by decide +kernel)) (fun _ _ _ _ _ => pg_name (i := 6) nd rfl (Or.inl rfl)) (fun _ _ _ _ _ => pts_nil)
            (fun _ _ _ _ _ => pe_or (pe_call GW hr rfl W.g W.F.kp W.b .nil pass0 (pa_cons (pv 4) (pa_cons (pv 6) pa_nil))) (pe_one (pe_call GW hr rfl W.g W.F.kp W.b .nil pass0 (pa_cons (pv 5) (pa_cons (pv 6) pa_nil)))))) pa_nil))))
          (pss_one (ps_ret pe_bl)) pss_nil))))
      (pss_one (ps_ret pe_bl))), ?_⟩
    have lz : (tx l).cps.size = l.length := tx_len _
    have hl12 := g.hi
    have wkr := walk_list (K := K) (a := a) (xs := (rs.map tx).map V.str)
    rw [List.length_map, List.length_map] at wkr
    refine ⟨_, rfl, tx l, rfl, ?_⟩
    refine for_it walk_str (fun i σ H' => ∃ (y2 y3 y4 y5 y6 : Option V), σ = [some (.str (tx l)), some (.ref a), y2, y3, y4, y5, y6] ∧ Same H H' ∧ ∀ c ∈ l.take i, (∃ r ∈ rs, c ∈ r) ∧ ∃ r ∈ rs, c ∉ r) ⟨_, _, _, _, _, rfl, L2.Same.refl _, fun c h => absurd h (by simp)⟩ (fun _ _ _ _ _ => trivial) ?_ ?_
    · rintro i x σ H1 H2 hi ⟨y2, y3, y4, y5, y6, rfl, s1, hv⟩ ⟨rfl, c, hc, rfl⟩
      have hcl : l[i]? = some c := by
        rw [← Array.getElem?_toList, tx_list] at hc
        exact hc
      have hS2 := sm_l s1 hS
      refine ⟨_, rfl, a, rfl, ⟨_, hS2⟩, fun Da na => ?_⟩
      refine lc_it wkr (fun u H' => Same H2 H' ∧ H' Da = some (.lst (((rs.take u).map fun r => decide (c ∈ r)).map V.bl))) ⟨same_upd na, upd_same⟩ (fun u H' _ h => sm_l h.1 hS2) ?_ ?_
      · rintro u x G5 G6 hu ⟨u5, ea⟩ ⟨rfl, hx⟩
        rw [List.getElem?_map, List.getElem?_map] at hx
        obtain ⟨z, hz, rfl⟩ := Option.map_eq_some_iff.mp hx
        obtain ⟨r, hr1, rfl⟩ := Option.map_eq_some_iff.mp hz
        refine ⟨rfl, yes_i ⟨_, rfl, _, rfl, c, tx r, rfl, rfl, ?_⟩⟩
        rw [tx_list]
        refine ⟨_, ea, ?_, sm_over u5 na, ?_⟩
        · rw [List.length_map, List.length_map, List.length_take, sizeLine_eq]
          omega
        · rw [upd_same, List.take_add_one, hr1, List.map_append, List.map_append]
          rfl
      · rintro G5 ⟨u5, ea⟩
        rw [List.take_length] at ea
        have no : ∀ G, Same G5 G → Q (.bl false) G := fun G hG => q G false (sm_trans (sm_trans s1 u5) hG) (fun h => by cases h)
        refine ⟨_, rfl, Da, _, rfl, .inl (SqL.of ea), rfl, flat_bl _, _, rfl, ?_⟩
        show if (!inV (.bl true) _) = true then _ else _
        rw [inV_bl]
        refine ite2 (fun t => iteT (no G5 (L2.Same.refl _))) (fun t => ?_)
        refine ⟨_, rfl, Da, _, rfl, .inl (SqL.of ea), rfl, flat_bl _, _, rfl, ?_⟩
        show if (!inV (.bl false) _) = true then _ else _
        rw [inV_bl]
        refine ite2 (fun t2 => no G5 (L2.Same.refl _)) (fun t2 => ?_)
        refine ⟨_, _, _, _, _, rfl, sm_trans s1 u5, fun e he => ?_⟩
        rw [List.take_add_one, hcl] at he
        rcases List.mem_append.mp he with h | h
        · exact hv e h
        · have e1 : e = c := by simpa using h
          rw [e1]
          have m1 : true ∈ rs.map fun r => decide (c ∈ r) := by simpa using t
          have m2 : false ∈ rs.map fun r => decide (c ∈ r) := by simpa using t2
          obtain ⟨r1, h1, k1⟩ := List.mem_map.mp m1
          obtain ⟨r2, h2, k2⟩ := List.mem_map.mp m2
          exact ⟨⟨r1, h1, of_decide_eq_true k1⟩, ⟨r2, h2, of_decide_eq_false k2⟩⟩
    rintro σ H1 ⟨y2, y3, y4, y5, y6, rfl, s1, hv⟩
    rw [lz, List.take_length] at hv
    refine ⟨_, rfl, l, rfl, g, fun H2 p s2 np ep => ?_⟩
    have wkp := walk_list (K := K) (a := p) (xs := ((prs l l.length).map tx).map V.str)
    rw [List.length_map, List.length_map] at wkp
    have s02 := sm_trans s1 s2
    refine ⟨p, rfl, ⟨_, SqL.of ep⟩, ?_⟩
    refine for_it wkp (fun i σ H' => ∃ (y2 y3 y4 y5 y6 : Option V), σ = [some (.str (tx l)), some (.ref a), y2, y3, y4, y5, y6] ∧ Same H2 H' ∧ ∀ b ∈ (prs l l.length).take i, ∃ r ∈ rs, inR b r = true ∨ inR (b.map swp) r = true) ⟨_, _, _, _, _, rfl, L2.Same.refl _, fun c h => absurd h (by simp)⟩ (fun i σ H' _ h => by obtain ⟨_, _, _, _, _, _, h, _⟩ := h; exact SqL.of (h _ _ ep)) ?_ ?_
    · rintro i x σ H3 H4 hi ⟨y2, y3, y4, y5, y6, rfl, s3, hw⟩ ⟨rfl, hx⟩
      rw [List.getElem?_map, List.getElem?_map] at hx
      obtain ⟨z, hz, rfl⟩ := Option.map_eq_some_iff.mp hx
      obtain ⟨b, hb1, rfl⟩ := Option.map_eq_some_iff.mp hz
      have hb2 : isBar l b = true := (prs_mem g b).mp (List.mem_of_getElem? hb1)
      obtain ⟨s, t, rfl, hs, ht, _⟩ := bar_two hb2
      have tz : (tx [s, t]).length ≤ sizeLine := by rw [tx_len, sizeLine_eq]; show 2 ≤ _; omega
      refine ⟨_, rfl, _, _, s, rfl, rfl, tz, rfl, s, rfl, sds_lt g hs, ?_⟩
      refine ⟨_, rfl, _, _, t, rfl, rfl, tz, rfl, t, rfl, sds_lt g ht, ?_⟩
      refine ⟨_, _, rfl, rfl, by show 1 + 1 ≤ sizeLine; decide, ?_⟩
      rw [show sg (swp s) ++ sg (swp t) = tx [swp s, swp t] by rw [sg_tx, sg_tx, tx_app]; rfl]
      have hS4 := sm_l (sm_trans s02 s3) hS
      refine ⟨_, rfl, a, rfl, ⟨_, hS4⟩, fun Da na => ?_⟩
      refine lc_it wkr (fun u H' => Same H4 H' ∧ H' Da = some (.lst (((rs.take u).map fun r => inR [s, t] r || inR [swp s, swp t] r).map V.bl))) ⟨same_upd na, upd_same⟩ (fun u H' _ h => sm_l h.1 hS4) ?_ ?_
      · rintro u x G5 G6 hu ⟨u5, ea⟩ ⟨rfl, hx⟩
        rw [List.getElem?_map, List.getElem?_map] at hx
        obtain ⟨z, hz, rfl⟩ := Option.map_eq_some_iff.mp hx
        obtain ⟨r, hr1, rfl⟩ := Option.map_eq_some_iff.mp hz
        have fin : ∀ G7, Same G6 G7 → ∀ bb : Bool, bb = (inR [s, t] r || inR [swp s, swp t] r) → ∃ acc, G7 Da = some (.lst acc) ∧ acc.length + 1 ≤ sizeLine ∧ Same H4 (upd G7 Da (.lst (acc ++ [V.bl bb]))) ∧ upd G7 Da (.lst (acc ++ [V.bl bb])) Da = some (.lst (((rs.take (u + 1)).map fun r => inR [s, t] r || inR [swp s, swp t] r).map V.bl)) := fun G7 u7 bb ebb => by
          refine ⟨_, u7 _ _ ea, ?_, sm_over (sm_trans u5 u7) na, ?_⟩
          · rw [List.length_map, List.length_map, List.length_take, sizeLine_eq]
            omega
          · rw [upd_same, List.take_add_one, hr1, List.map_append, List.map_append, ebb]
            rfl
        refine ⟨rfl, yes_i ⟨_, rfl, _, rfl, [s, t], r, rfl, by show 2 ≤ 100; decide, fun G7 u7 => ⟨_, rfl, ?_⟩⟩⟩
        refine ite2 (fun k1 => fin G7 u7 true (by rw [k1]; rfl)) (fun k1 => ?_)
        refine ⟨_, rfl, _, rfl, [swp s, swp t], r, rfl, by show 2 ≤ 100; decide, fun G8 u8 => fin G8 (sm_trans u7 u8) _ (by rw [Bool.eq_false_iff.mpr k1]; rfl)⟩
      · rintro G5 ⟨u5, ea⟩
        rw [List.take_length] at ea
        refine ⟨Da, _, rfl, SqL.of ea, _, rfl, ?_⟩
        refine ite2 (fun t0 => ?_) (fun t0 => ?_)
        · exact q G5 false (sm_trans (sm_trans s02 s3) u5) (fun h => by cases h)
        · refine ⟨_, _, _, _, _, rfl, sm_trans s3 u5, fun e he => ?_⟩
          rw [List.take_add_one, hb1] at he
          rcases List.mem_append.mp he with h | h
          · exact hw e h
          · have e1 : e = [s, t] := by simpa using h
            rw [e1]
            have t1 : (rs.map fun r => inR [s, t] r || inR [swp s, swp t] r).any id = true := by
              cases hh : (rs.map fun r => inR [s, t] r || inR [swp s, swp t] r).any id with
              | true => rfl
              | false => rw [hh] at t0; exact absurd rfl t0
            rw [List.any_map] at t1
            obtain ⟨r, hr2, k2⟩ := List.any_eq_true.mp t1
            refine ⟨r, hr2, ?_⟩
            have k2 : (inR [s, t] r || inR [swp s, swp t] r) = true := k2
            rcases Bool.or_eq_true_iff.mp k2 with z | z
            · exact .inl z
            · exact .inr z
    · rintro σ H3 ⟨y2, y3, y4, y5, y6, rfl, s3, hw⟩
      rw [List.take_length] at hw
      refine q H3 true (sm_trans s02 s3) fun _ => ⟨hv, fun x y hxy => ?_⟩
      exact hw [x, y] ((prs_mem g _).mpr hxy)
end
end NC
namespace NC
open PySem PySem.Spec PyProof.Rows L2
abbrev sHall : Stmt := topS 91
abbrev nHall : List Str := ["_law_d", "_law_most", "_law_shuts_here", "_law_bars", "_law_many", "_law_k", "_law_bar"]
theorem scHall : FnScope nHall ["_law_d", "_law_most"] (defScope sHall) := ⟨rfl, rfl, rfl, by decide +kernel, rfl, by decide +kernel, by decide +kernel⟩
theorem Dr.cell {H : Hp} {d c : Addr} (h : Dr H d) (hc : HeadC H d c) : ∃ ns : List Int, H c = some (.lst (ns.map V.int)) := by
  obtain ⟨c0, ns, i, a, b, f, h1, h2, h3⟩ := h
  obtain ⟨r, e⟩ := hc
  rw [h1] at e
  have e2 : c0 = c := by
    injection e with e
    injection e with e
    injection e with e _
    injection e
  exact ⟨ns, by rw [← e2]; exact h2⟩
theorem Dr.upd {H : Hp} {d c b : Addr} {o : HO} (h : Dr H d) (hc : HeadC H d c) (n1 : b ≠ d) (n2 : b ≠ c) : Dr (L2.upd H b o) d := by
  obtain ⟨c0, ns, i, a, b2, f, h1, h2, h3⟩ := h
  obtain ⟨r, e⟩ := hc
  rw [h1] at e
  have e2 : c0 = c := by
    injection e with e
    injection e with e
    injection e with e _
    injection e
  exact ⟨c0, ns, i, a, b2, f, by rw [upd_ne (Ne.symm n1)]; exact h1, by rw [e2, upd_ne (Ne.symm n2), ← e2]; exact h2, h3⟩
theorem Dr.head {H : Hp} {d : Addr} (h : Dr H d) : ∃ c, HeadC H d c := by
  obtain ⟨c0, ns, i, a, b2, f, h1, h2, h3⟩ := h
  exact ⟨c0, _, h1⟩
theorem HeadC.upd {H : Hp} {d c b : Addr} {o : HO} (h : HeadC H d c) (n1 : b ≠ d) : HeadC (L2.upd H b o) d c := by
  obtain ⟨r, h⟩ := h
  exact ⟨r, by rw [upd_ne (Ne.symm n1)]; exact h⟩
theorem first_ok {l : List Nat} {bs : List (List Nat)} (h : ∀ b ∈ bs, isBar l b = true) (nd : bs.Nodup) : firstBad l bs = none := List.find?_eq_none.mpr fun i hi => by
  have hl : i < bs.length := by simpa using hi
  have e : bs.getD i [] = bs[i] := by simp [List.getD, hl]
  unfold badAt
  rw [e, h _ (List.getElem_mem hl)]
  have hn : bs[i] ∉ bs.take i := fun hm => by
    obtain ⟨j, hj, ej⟩ := List.getElem_of_mem hm
    have hji : j < i := by rw [List.length_take] at hj; omega
    rw [List.getElem_take] at ej
    have hjl : j < bs.length := by omega
    have ee : bs[j]? = bs[i]? := by rw [List.getElem?_eq_getElem hjl, List.getElem?_eq_getElem hl, ej]
    have := (List.getElem?_inj hjl nd).mp ee
    omega
  simp [hn]
theorem bars_ok {l : List Nat} (g : GoodW l) {bs : List (List Nat)} (h : ∀ b ∈ bs, isBar l b = true) : BarsOk bs := fun b hb => by
  obtain ⟨x, y, rfl, hx, hy, _⟩ := bar_two (h b hb)
  refine ⟨fun c hc => ?_, by show 2 ≤ 100; decide⟩
  rcases List.mem_cons.mp hc with e | e
  · rw [e]; exact sds_asc g hx
  · rw [List.mem_singleton.mp e]; exact sds_asc g hy
theorem prs_pos {l : List Nat} (g : GoodW l) (h : 1 < l.length) : 1 ≤ (prs l l.length).length := by
  have h0 : 0 < l.length := by omega
  have lt : l[0] < l[1] := List.pairwise_iff_getElem.mp g.rise 0 1 h0 h (by omega)
  have m0 : l[0] ∈ l := List.getElem_mem h0
  have m1 : l[1] ∈ l := List.getElem_mem h
  have hm : [l[0], l[1]] ∈ prs l l.length := (prs_mem g _).mpr (by
    show (decide (l[0] ∈ sds l) && (decide (l[1] ∈ sds l) && decide (lwc l[0] < lwc l[1]))) = true
    rw [decide_eq_true (sds_of_small m0), decide_eq_true (sds_of_small m1), lwc_of (g.sm _ m0) (List.mem_cons_self ..), lwc_of (g.sm _ m1) (List.mem_cons_self ..), decide_eq_true lt]
    rfl)
  exact List.length_pos_of_mem hm
theorem mem_tx {x : List Nat} {bs : List (List Nat)} : tx x ∈ bs.map tx ↔ x ∈ bs := by
  constructor
  · intro h
    obtain ⟨y, hy, e⟩ := List.mem_map.mp h
    rw [← tx_inj e]
    exact hy
  · exact fun h => List.mem_map.mpr ⟨x, h, rfl⟩
theorem inV_tx (x : List Nat) (bs : List (List Nat)) : inV (.str (tx x)) ((bs.map tx).map V.str) = decide (x ∈ bs) := by
  rw [inV_str]
  by_cases h : x ∈ bs
  · rw [decide_eq_true h, decide_eq_true (mem_tx.mpr h)]
  · rw [decide_eq_false h, decide_eq_false fun z => h (mem_tx.mp z)]
/-- a hall as the law draws it -/
structure HallOk (l : List Nat) (bs : List (List Nat)) : Prop where
  g : GoodW l
  bar : ∀ b ∈ bs, isBar l b = true
  nd : bs.Nodup
  len : bs.length ≤ 24
  ok : Okv l bs
  ne : rms l bs ≠ []
theorem rms_nil_ne {l : List Nat} : rms l [] ≠ [] := fun h => by
  have e : rms l [] = allT l l.length := List.filter_eq_self.mpr fun _ _ => rfl
  rw [e] at h
  have := allT_len l l.length
  rw [h] at this
  have h2 : 0 < 2 ^ l.length := Nat.pow_pos (by decide)
  rw [← this] at h2
  exact absurd h2 (by decide)
theorem Fine.ne {l : List Nat} (g : GoodW l) {rs : List (List Nat)} (F : Fine l rs) : rs ≠ [] := fun z => by
  obtain ⟨c, hc⟩ : ∃ c, c ∈ l := by
    have := g.lo
    cases l with
    | nil => exact absurd this (by decide)
    | cons c r => exact ⟨c, List.mem_cons_self ..⟩
  obtain ⟨⟨r, hr, _⟩, _⟩ := F.has c hc
  rw [z] at hr
  cases hr
section
variable {P : Program} {w : World} {K : PySem.W.Frag} {mg : Str → Option Value} {base : Heap}
def spHall : Sp := fun vs H Q _ => ∃ (d : Addr) (n : Int), vs = [.ref d, .int n] ∧ Dr H d ∧ 1 ≤ n ∧ n ≤ 12 ∧
  ∀ H' l bs T bA rA, SmD d H H' → Dr H' d → HallOk l bs → (l.length : Int) ≤ n → bA ≠ d → rA ≠ d → H' T = some (.lst [.str (tx l), .ref bA, .ref rA]) → H' bA = some (.lst ((bs.map tx).map V.str)) → H' rA = some (.lst (((rms l bs).map tx).map V.str)) → Q (.ref T) H'
set_option maxHeartbeats 2000000 in
theorem ok_hall {f fDraw fOf fLet fShuts fOth fWit fPairs fAll fRms fFine : Addr} {fd dDraw dOf dLet dShuts dOth dWit dPairs dAll dRms dFine : FuncData} {k : Nat} (B : BM mg) (hany : mg "any" = none) (F : Fun K "_law_hall" "_law_hall" sHall f fd)
    (Ld : DF K mg "_law_draw" sDraw ["_law_d", "_law_many"] fDraw dDraw) (Lo : DF K mg "_law_of" sOf ["_law_d", "_law_some"] fOf dOf) (Ll : DF K mg "_law_letters" sLetters [] fLet dLet) (Ls : DF K mg "_law_shuts" sShuts ["_law_d", "_law_most"] fShuts dShuts)
    (Lt : DF K mg "_law_other" sOth ["_law_side"] fOth dOth) (Lw : DF K mg "_law_within" sWithin ["_law_sides", "_law_room"] fWit dWit) (Lp : DF K mg "_law_pairs" sPairs ["_law_shuts_here"] fPairs dPairs) (La : DF K mg "_law_all" sAll ["_law_shuts_here"] fAll dAll)
    (Lr : DF K mg "_law_rooms" sRooms ["_law_shuts_here", "_law_bars"] fRms dRms) (Lf : DF K mg "_law_fine" sFine ["_law_shuts_here", "_law_rooms_here"] fFine dFine) :
    FnOk P w K mg base CX0 (k + 3) f fd ["_law_d", "_law_most"] spHall := by
  have GD : FnOk P w K mg base CX0 (k + 1) fDraw dDraw ["_law_d", "_law_many"] spDraw := ok_draw B Ld.F
  have GO : FnOk P w K mg base CX0 (k + 2) fOf dOf ["_law_d", "_law_some"] (spOf K) := ok_of B Lo.F Ld
  have GSh : FnOk P w K mg base CX0 (k + 2) fShuts dShuts ["_law_d", "_law_most"] spShuts := ok_shuts B Ls.F Ld Ll
  have GP : FnOk P w K mg base CX0 (k + 1) fPairs dPairs ["_law_shuts_here"] spPairs := ok_pairs B Lp.F
  have GR : FnOk P w K mg base CX0 (k + 2) fRms dRms ["_law_shuts_here", "_law_bars"] (spRooms K) := ok_rooms B hany Lr.F La Lw
  have GF : FnOk P w K mg base CX0 (k + 2) fFine dFine ["_law_shuts_here", "_law_rooms_here"] (spFine K) := ok_fine B hany Lf.F Lp Lt Lw
  refine F.ok scHall (fun vs H Q E h => ?_) (fun cdv A outer st H vs Q E hr h => ?_)
  · obtain ⟨d, n, rfl, _⟩ := h
    rfl
  · obtain ⟨d, n, rfl, hD, n1, n12, q⟩ := h
    have r1 : Room (k + 1) _ := hr.mono (by omega)
    have r2 : Room (k + 2) _ := hr.mono (by omega)
    have nd := scHall.nd
    refine ⟨_, pss_cons (ps_par (i := 2) (j := 3) rfl nd rfl rfl (by decide) rfl rfl (pa_cons (pe_call GSh r2 rfl Ls.g Ls.F.kp Ls.b .nil pass0 (pa_cons (pv 0) (pa_cons (pe_op op_add pe_int (pe_call GD r1 rfl Ld.g Ld.F.kp Ld.b .nil pass0 (pa_cons (pv 0) (pa_cons (pv 1) pa_nil)))) pa_nil))) (pa_cons (pe_lst pa_nil) pa_nil)) rfl)
      (C8.pss_cut (ps_set (i := 4) nd rfl (.inl rfl) (pe_ifExp (pt_cmpR op_gt (pe_callB call_len_str (by rfl) B.len PySem.boot_len (pa_cons (pv 2) pa_nil)) pe_int (nomark _))
          (pe_ix ix_list (pe_lst (pa_cons pe_int (pa_cons (pe_callB call_len_str (by rfl) B.len PySem.boot_len (pa_cons (pv 2) pa_nil)) (pa_cons (pe_op op_mul pe_int (pe_callB call_len_str (by rfl) B.len PySem.boot_len (pa_cons (pv 2) pa_nil))) (pa_cons pe_int pa_nil))))) (pe_call GD r1 rfl Ld.g Ld.F.kp Ld.b .nil pass0 (pa_cons (pv 0) (pa_cons pe_int pa_nil))) (fun _ _ => rfl)) pe_int))
      (pss_cons (ps_for PassesOwn.never rfl (pi_range1 (by rfl) B.range (pa_cons (pv 4) pa_nil)) (pg_name (i := 5) nd rfl (.inl rfl))
        (pss_cons (ps_set (i := 6) nd rfl (.inl rfl) (pe_call GO r2 rfl Lo.g Lo.F.kp Lo.b .nil pass0 (pa_cons (pv 0) (pa_cons (pe_call GP r1 rfl Lp.g Lp.F.kp Lp.b .nil pass0 (pa_cons (pv 2) pa_nil)) pa_nil))))
        (pss_one (ps_if (PW.pt (pw_and (pt_cmpR op_notIn_seq (pv 6) (pv 3) (by rfl)) (pw_and1 (pt_val (pe_call GF r2 rfl Lf.g Lf.F.kp Lf.b .nil pass0 (pa_cons (pv 2) (pa_cons (pe_call GR r2 rfl Lr.g Lr.F.kp Lr.b .nil pass0 (pa_cons (pv 2) (pa_cons (pe_op op_cat (pv 3) (pe_lst (pa_cons (pv 6) pa_nil))) pa_nil))) pa_nil)))))))
          (pss_one (ps_set (i := 3) nd rfl (.inl rfl) (pe_op op_cat (pv 3) (pe_lst (pa_cons (pv 6) pa_nil))))) pss_nil))))
      (pss_one (ps_ret (pe_lst (pa_cons (pv 2) (pa_cons (pv 3) (pa_cons (pe_call GR r2 rfl Lr.g Lr.F.kp Lr.b .nil pass0 (pa_cons (pv 2) (pa_cons (pv 3) pa_nil))) pa_nil)))))))), ?_⟩
    refine ⟨_, rfl, _, rfl, _, rfl, d, n, rfl, hD, by omega, by omega, fun H1 v s1 D1 v0 v1 => ⟨_, _, rfl, rfl, d, _, rfl, D1, by omega, by omega, fun H2 l s2 D2 g hln => ?_⟩⟩
    have hz : (tx l).length ≤ sizeLine := by rw [tx_len, sizeLine_eq]; have := g.hi; omega
    have hl12 := g.hi
    have s02 := s1.trans s2
    refine ⟨Nat.zero_le _, fun bA0 nb0 => ⟨_, _, rfl, ?_⟩⟩
    have nbd0 : bA0 ≠ d := by
      obtain ⟨c0, r0, hd2⟩ := D2.head
      exact Ne.symm (ne_of_none hd2 nb0)
    have s03 : SmD d H (upd H2 bA0 (.lst [])) := s02.trans (SmD.of (same_upd nb0))
    have D3 : Dr (upd H2 bA0 (.lst [])) d := D2.same (same_upd nb0)
    have e3 : (upd H2 bA0 (.lst [])) bA0 = some (.lst []) := upd_same
    generalize (upd H2 bA0 (.lst [])) = H3 at s03 D3 e3 ⊢
    refine ⟨fun σ H' => ∃ (m : Nat) (y5 y6 : Option V), σ = [some (.ref d), some (.int n), some (.str (tx l)), some (.ref bA0), some (.int m), y5, y6] ∧ m ≤ 24 ∧ (0 < m → 1 < l.length) ∧ SmD d H H' ∧ Dr H' d ∧ H' bA0 = some (.lst []), ?_, ?_⟩
    · refine ⟨_, rfl, _, rfl, hz, _, _, rfl, rfl, _, rfl, ite2 (fun t => ?_) (fun t => ?_)⟩
      · have hl1 : 1 < l.length := by
          have := of_decide_eq_true t
          rw [tx_len] at this
          omega
        refine ⟨_, rfl, _, rfl, hz, _, rfl, _, rfl, hz, _, _, rfl, rfl, .inl ⟨by decide, by decide⟩, by show 4 ≤ sizeLine; decide, fun p np => ?_⟩
        have npd : p ≠ d := by
          obtain ⟨c0, r0, hd3⟩ := D3.head
          exact Ne.symm (ne_of_none hd3 np)
        have npb : bA0 ≠ p := ne_of_none e3 np
        refine ⟨_, rfl, d, 4, rfl, D3.same (same_upd np), by decide, by decide, fun H4 v4 s4 D4 v40 v44 => ?_⟩
        have ep : H4 p = _ := s4.1 _ _ npd upd_same
        obtain ⟨m, hm, hat⟩ : ∃ m : Nat, m ≤ 24 ∧ atI [V.int 0, .int ((tx l).length : Nat), .int (2 * ((tx l).length : Nat)), .int 1] v4 = some (.int m) := by
          rw [tx_len]
          have hv : v4 = 0 ∨ v4 = 1 ∨ v4 = 2 ∨ v4 = 3 := by omega
          rcases hv with rfl | rfl | rfl | rfl
          · exact ⟨0, by omega, rfl⟩
          · exact ⟨l.length, by omega, rfl⟩
          · exact ⟨2 * l.length, by omega, by show some (V.int (2 * ((l.length : Nat) : Int))) = _; congr 2⟩
          · exact ⟨1, by omega, rfl⟩
        refine ⟨p, _, v4, .int m, rfl, rfl, SqL.of ep, hat, m, _, _, rfl, hm, fun _ => hl1, (s03.trans (SmD.of (same_upd np))).trans s4, D4, s4.1 _ _ nbd0 (by rw [upd_ne npb]; exact e3)⟩
      · exact ⟨0, _, _, rfl, by omega, fun h => absurd h (by decide), s03, D3, e3⟩
    rintro σ H4 ⟨m, y5, y6, rfl, hm, hm1, s4, D4, e4⟩
    refine ⟨_, rfl, m, rfl, by omega, by omega, ?_⟩
    rw [show ((m : Nat) : Int).toNat = m from Int.toNat_natCast _]
    refine for_it walk_range (fun j σ H' => ∃ (bA : Addr) (y5 y6 : Option V) (bs : List (List Nat)), σ = [some (.ref d), some (.int n), some (.str (tx l)), some (.ref bA), some (.int m), y5, y6] ∧ SmD d H H' ∧ Dr H' d ∧ bA ≠ d ∧ H' bA = some (.lst ((bs.map tx).map V.str)) ∧ HallOk l bs ∧ bs.length ≤ j)
      ⟨bA0, _, _, [], rfl, s4, D4, nbd0, e4, ⟨g, (fun b h => absurd h (by simp)), List.nodup_nil, Nat.zero_le _, okv_nil g, rms_nil_ne⟩, Nat.le_refl _⟩ (fun _ _ _ _ _ => trivial) ?_ ?_
    · rintro j v σ Ha Hb hj ⟨bA, y5, y6, bs, rfl, sa, Da, nbd, ea, ho, hbl⟩ ⟨rfl, rfl⟩
      have hl1 : 1 < l.length := hm1 (by omega)
      have pl := prs_len l l.length
      have pl2 : 4 * l.length * l.length ≤ 4 * 12 * 12 := Nat.mul_le_mul (Nat.mul_le_mul_left _ hl12) hl12
      refine ⟨_, rfl, _, rfl, l, rfl, g, fun H5 pA s5 npA epA => ?_⟩
      have npd : pA ≠ d := by
        obtain ⟨c0, r5, hd5⟩ := Da.head
        exact Ne.symm (ne_of_none hd5 npA)
      have D5 := Da.same s5
      refine ⟨d, _, rfl, D5, .inl ⟨pA, _, rfl, npd, SqL.of epA, by rw [List.length_map, List.length_map]; exact prs_pos g hl1, by rw [List.length_map, List.length_map]; omega, fun H6 v j s6 D6 hv => ?_⟩⟩
      rw [List.getElem?_map, List.getElem?_map] at hv
      obtain ⟨z, hz1, rfl⟩ := Option.map_eq_some_iff.mp hv
      obtain ⟨b, hb1, rfl⟩ := Option.map_eq_some_iff.mp hz1
      have hbar : isBar l b = true := (prs_mem g b).mp (List.mem_of_getElem? hb1)
      have e6 : H6 bA = _ := s6.1 _ _ nbd (s5 _ _ ea)
      have s06 := (sa.trans (SmD.of s5)).trans s6
      refine ⟨_, rfl, _, rfl, bA, _, rfl, .inl (SqL.of e6), rfl, flat_str _, _, rfl, ?_⟩
      show if (!inV (.str (tx b)) ((bs.map tx).map V.str)) = true then _ else _
      rw [inV_tx]
      refine ite2 (fun t => ?_) (fun t => ?_)
      · have hn : b ∉ bs := by simpa using t
        have ej : (bs.map tx).map V.str ++ [V.str (tx b)] = ((bs ++ [b]).map tx).map V.str := by simp
        have lz2 : ((bs.map tx).map V.str).length + [V.str (tx b)].length ≤ sizeLine := by
          rw [List.length_map, List.length_map, sizeLine_eq]
          show bs.length + 1 ≤ _
          omega
        have hb' : ∀ e ∈ bs ++ [b], isBar l e = true := fun e he => by
          rcases List.mem_append.mp he with z | z
          · exact ho.bar e z
          · rw [List.mem_singleton.mp z]; exact hbar
        have bok := bars_ok g hb'
        refine ⟨_, rfl, _, rfl, _, rfl, _, rfl, by show 1 ≤ sizeLine; decide, fun p1 np1 => ?_⟩
        have n1b : bA ≠ p1 := ne_of_none e6 np1
        refine ⟨bA, p1, _, _, rfl, rfl, by rw [upd_ne n1b]; exact e6, upd_same, lz2, fun p2 np2 => ?_⟩
        have n12' : p1 ≠ p2 := ne_of_none upd_same np2
        have s67 : Same H6 (upd (upd H6 p1 (.lst [V.str (tx b)])) p2 (.lst ((bs.map tx).map V.str ++ [V.str (tx b)]))) := sm_upd (same_upd np1) np2
        have e7 : (upd (upd H6 p1 (.lst [V.str (tx b)])) p2 (.lst ((bs.map tx).map V.str ++ [V.str (tx b)]))) p2 = some (.lst (((bs ++ [b]).map tx).map V.str)) := by rw [upd_same, ej]
        generalize (upd (upd H6 p1 (.lst [V.str (tx b)])) p2 (.lst ((bs.map tx).map V.str ++ [V.str (tx b)]))) = H7 at s67 e7 ⊢
        refine ⟨l, p2, bs ++ [b], rfl, g, SqL.of e7, fun x hx => (bok x hx).2, by rw [List.length_append]; show bs.length + 1 ≤ 100; omega, fun H8 rA s8 nrA erA => ?_⟩
        refine ⟨l, rA, rms l (bs ++ [b]), rfl, g, SqL.of erA, rms_len g, fun H9 c s9 hc => ?_⟩
        have s69 := sm_trans (sm_trans s67 s8) s9
        refine ⟨_, rfl, ite2 (fun t2 => ?_) (fun t2 => ?_)⟩
        · have fine := hc t2
          have ho' : HallOk l (bs ++ [b]) := ⟨g, hb', nd_snoc ho.nd hn, by rw [List.length_append]; show bs.length + 1 ≤ 24; omega, fine.ok g hb', fine.ne g⟩
          have e9 := s69 _ _ e6
          refine ⟨_, rfl, _, rfl, by show 1 ≤ sizeLine; decide, fun p3 np3 => ?_⟩
          have n3b : bA ≠ p3 := ne_of_none e9 np3
          refine ⟨bA, p3, _, _, rfl, rfl, by rw [upd_ne n3b]; exact e9, upd_same, lz2, fun p4 np4 => ?_⟩
          have sX := sm_upd (same_upd np3) np4 (o := .lst ((bs.map tx).map V.str ++ [V.str (tx b)]))
          have D9 := D6.same s69
          have n4d : p4 ≠ d := by
            obtain ⟨c0, r5, hd5⟩ := (D9.same (same_upd np3)).head
            exact Ne.symm (ne_of_none hd5 np4)
          exact ⟨p4, _, _, bs ++ [b], rfl, s06.trans (SmD.of (sm_trans s69 sX)), D9.same sX, n4d, by rw [upd_same, ej], ho', by rw [List.length_append]; show bs.length + 1 ≤ _ + 1; omega⟩
        · exact ⟨bA, _, _, bs, rfl, s06.trans (SmD.of s69), D6.same s69, nbd, s69 _ _ e6, ho, by omega⟩
      · exact iteF ⟨bA, _, _, bs, rfl, s06, D6, nbd, e6, ho, by omega⟩
    · rintro σ H5 ⟨bA, y5, y6, bs, rfl, s5, D5, nbd, e5, ho, hbl⟩
      have bok := bars_ok g ho.bar
      refine ⟨_, rfl, _, rfl, _, rfl, _, rfl, l, bA, bs, rfl, g, SqL.of e5, fun x hx => (bok x hx).2, by omega, fun H6 rA s6 nrA erA => ?_⟩
      have nrd : rA ≠ d := by
        obtain ⟨c0, r5, hd5⟩ := D5.head
        exact Ne.symm (ne_of_none hd5 nrA)
      refine ⟨by show 3 ≤ sizeLine; decide, fun T nT => ?_⟩
      have sT := sm_upd s6 nT (o := .lst [.str (tx l), .ref bA, .ref rA])
      have ntb : bA ≠ T := ne_of_none (s6 _ _ e5) nT
      have ntr : rA ≠ T := ne_of_none erA nT
      exact q _ l bs T bA rA (s5.trans (SmD.of sT)) (D5.same sT) ho (by omega) nbd nrd upd_same (by rw [upd_ne ntb]; exact s6 _ _ e5) (by rw [upd_ne ntr]; exact erA)
end
end NC
namespace NC
open PySem PySem.Spec PyProof.Rows L2
abbrev sHroom : Stmt := inClass (topS 33) 5
abbrev sHrooms : Stmt := inClass (topS 33) 6
abbrev sHgoes : Stmt := inClass (topS 33) 7
theorem scHroom : FnScope ["self", "room", "bar"] ["self", "room"] (defScope sHroom) := ⟨rfl, rfl, rfl, by decide +kernel, rfl, by decide +kernel, by decide +kernel⟩
structure HM (K : PySem.W.Frag) (C fm fr fg : Addr) (dm dr dg : FuncData) : Prop where
  mm : Meth K C "is_room" fm
  Fm : Fun K "is_room" "Hall.is_room" sHroom fm dm
  bm : Binds K dm ["self", "room"] []
  mr : Meth K C "rooms" fr
  Fr : Fun K "rooms" "Hall.rooms" sHrooms fr dr
  br : Binds K dr ["self"] []
  mg : Meth K C "goes_with" fg
  Fg : Fun K "goes_with" "Hall.goes_with" sHgoes fg dg
  bg : Binds K dg ["self", "side", "begun"] []
theorem mem_tx0 {x : List Nat} {bs : List (List Nat)} : tx x ∈ bs.map tx ↔ x ∈ bs := by
  constructor
  · intro h
    obtain ⟨y, hy, e⟩ := List.mem_map.mp h
    rw [← tx_inj e]
    exact hy
  · exact fun h => List.mem_map.mpr ⟨x, h, rfl⟩
theorem str00 : (Str.ofString "") = tx [] := by decide +kernel
theorem HallAt.same {C : Addr} {H H' : Hp} {x dx sb D : Addr} {l : List Nat} {ys : List Str} {fo : Nat → List Nat} (h : HallAt C H x dx sb D l ys fo) (s : Same H H') : HallAt C H' x dx sb D l ys fo := ⟨s _ _ h.x, s _ _ h.sb, s _ _ h.D⟩
/-- a text is a room of the walls when it is one but for what is great -/
theorem room_low {l : List Nat} (g : GoodW l) (r : List Nat) : r ∈ allT l l.length ↔ r.map lwc = l := by
  have lw1 : ∀ {c : Nat}, c ∈ l → lwc c = c := fun {c} hc => by
    have := g.sm c hc
    unfold lwc
    rw [if_neg (by omega)]
  have lw2 : ∀ {c : Nat}, c ∈ l → lwc (upc c) = c := fun {c} hc => by
    have := g.sm c hc
    rw [upc_small this]
    unfold lwc
    rw [if_pos (by omega)]
    omega
  rw [allT_mem g.nd (Nat.le_refl _) r, List.take_length]
  constructor
  · rintro ⟨p, rfl⟩
    unfold rmOf
    rw [List.map_map]
    refine Eq.trans (List.map_congr_left fun c hc => ?_) (List.map_id l)
    show lwc (if p c then c else upc c) = c
    by_cases h : p c = true
    · rw [if_pos h]; exact lw1 hc
    · rw [if_neg h]; exact lw2 hc
  · intro h
    refine ⟨fun c => decide (c ∈ r), ?_⟩
    have hl : r.length = l.length := by rw [← h, List.length_map]
    refine List.ext_getElem (by unfold rmOf; rw [List.length_map]; exact hl) fun i h1 h2 => ?_
    have hil : i < l.length := by omega
    have ei : lwc r[i] = l[i] := by
      have : (r.map lwc)[i]'(by rw [List.length_map]; exact h1) = l[i] := by simp only [h]
      rw [List.getElem_map] at this
      exact this
    have hm : l[i] ∈ l := List.getElem_mem hil
    have sm := g.sm _ hm
    have eR : (rmOf l fun c => decide (c ∈ r))[i]'h2 = if decide (l[i] ∈ r) = true then l[i] else upc l[i] := by simp only [rmOf, List.getElem_map]
    rw [eR]
    by_cases hin : l[i] ∈ r
    · rw [if_pos (decide_eq_true hin)]
      obtain ⟨j, hj, ej⟩ := List.getElem_of_mem hin
      have ejl : lwc r[j] = l[j]'(by omega) := by
        have : (r.map lwc)[j]'(by rw [List.length_map]; exact hj) = l[j]'(by omega) := by simp only [h]
        rw [List.getElem_map] at this
        exact this
      rw [ej, lw1 hm] at ejl
      have : i = j := (List.getElem?_inj hil g.nd).mp (by rw [List.getElem?_eq_getElem hil, List.getElem?_eq_getElem (show j < l.length by omega), ejl])
      subst this
      exact ej
    · rw [if_neg (fun z => hin (of_decide_eq_true z)), upc_small sm]
      unfold lwc at ei
      by_cases hh : 65 ≤ r[i] ∧ r[i] ≤ 90
      · rw [if_pos hh] at ei
        omega
      · rw [if_neg hh] at ei
        exact absurd (by rw [← ei]; exact List.getElem_mem h1) hin
section
variable {P : Program} {w : World} {K : PySem.W.Frag} {mg : Str → Option Value} {base : Heap} {C fi fb fm fr fg : Addr} {di db dm dr dg : FuncData}
def rSgn2 : R2 := fun x y H Q => ∃ (c : Nat) (z : Str), x = .str ⟨#[c]⟩ ∧ y = .str z ∧ Q (.bl (decide (c ∈ z.cps.toList))) H
def spHroom (C : Addr) : Sp := fun vs H Q _ => ∃ x dx sb D l ys fo bs r, vs = [.ref x, .str (tx r)] ∧ HallAt C H x dx sb D l ys fo ∧ GoodW l ∧ (∀ b ∈ bs, isBar l b = true) ∧ ys.Perm (bs.map tx) ∧ bs.length ≤ 64 ∧ (∀ c ∈ r, c < 128) ∧ r.length ≤ 100 ∧ ∀ H', Same H H' → Q (.bl (decide (r ∈ rms l bs))) H'
set_option maxHeartbeats 1000000 in
theorem ok_Hroom {k : Nat} (hany : mg "any" = none) (Z : HC K mg C fi fb di db) (M : HM K C fm fr fg dm dr dg) : FnOk P w K mg base CX0 (k + 1) fm dm ["self", "room"] (spHroom C) := by
  refine M.Fm.ok scHroom (fun vs H Q E h => ?_) (fun cdv A outer st H vs Q E hr h => ?_)
  · obtain ⟨x, dx, sb, D, l, ys, fo, bs, r, rfl, _⟩ := h
    rfl
  · obtain ⟨x, dx, sb, D, l, ys, fo, bs, r, rfl, hA, g, hb, hp, hbn, hra, hrl, q⟩ := h
    have nd := scHroom.nd
    refine ⟨_, pss_cons (ps_if (pt_cmpR op_ne (pe_lower (pv 1)) (pe_fld (pv 0) rfl) (nomark _)) (pss_one (ps_ret pe_bl)) pss_nil)
      (pss_one (ps_ret (pe_not (pe_callB (cr_any rfl) (by rfl) hany (by decide +kernel) (pa_cons (pe_lc (own := [("bar", 2)]) (g := gName 2) (tt := tYes) (te := tAndV (tOp rSgn2 (tOp rIxS (tVar 2) (tC (.int 0))) (tVar 1)) (tOp rSgn2 (tOp rIxS (tVar 2) (tC (.int 1))) (tVar 1))) rfl nd (pi_list (pe_fld (pv 0) rfl)) (blkOk_by (N := ["self", "room", "bar"]) (sc := defScope sHroom) (by decide +kernel)) (fun _ _ _ _ _ => pg_name (i := 2) nd rfl (Or.inl rfl)) (fun _ _ _ _ _ => pts_nil)
        (fun _ _ _ _ _ => pe_and (pe_cmpR op_in_sign (pe_ix ix_str (pv 2) pe_int (fun _ _ => rfl)) (pv 1) (by rfl)) (pe_one (pe_cmpR op_in_sign (pe_ix ix_str (pv 2) pe_int (fun _ _ => rfl)) (pv 1) (by rfl))))) pa_nil))))), ?_⟩
    refine ⟨_, rfl, ⟨_, rfl⟩, _, rfl, rfl, by show r.toArray.size ≤ 5592405; rw [List.size_toArray]; omega, ?_⟩
    rw [lower_tx hra]
    refine ⟨_, rfl, x, C, dx, _, .str (tx l), rfl, hA.x, Z.cl, Z.n1, rfl, rfl, _, rfl, ite2 (fun t => ?_) (fun t => ?_)⟩
    · have hn : r ∉ rms l bs := fun z => by
        unfold rms at z
        have := (room_low g r).mp (List.mem_filter.mp z).1
        rw [this] at t
        simp at t
      have := q H (L2.Same.refl _)
      rw [decide_eq_false hn] at this
      exact this
    · have hlow : r.map lwc = l := by
        have t2 : tx (r.map lwc) = tx l := by simpa using t
        exact tx_inj t2
      have hall := (room_low g r).mpr hlow
      have yz : ys = (ys.map fun y => y.cps.toList).map tx := by
        rw [List.map_map]
        refine (Eq.trans (List.map_congr_left fun y _ => ?_) (List.map_id ys)).symm
        show Str.mk y.cps.toList.toArray = y
        rw [Array.toArray_toList]
      generalize hzs : (ys.map fun y => y.cps.toList) = zs at yz
      have mz : ∀ b, b ∈ zs ↔ b ∈ bs := fun b => by
        rw [← mem_tx0, ← mem_tx0, ← yz]
        exact hp.mem_iff
      have zl : zs.length ≤ 64 := by
        have := hp.length_eq
        rw [yz, List.length_map, List.length_map] at this
        omega
      rw [yz] at hA
      have wk := walk_list (K := K) (a := sb) (xs := (zs.map tx).map V.str)
      rw [List.length_map, List.length_map] at wk
      refine ⟨_, rfl, x, C, dx, _, .ref sb, rfl, hA.x, Z.cl, Z.n2, rfl, sb, rfl, ⟨_, SqL.of hA.sb⟩, fun Da na => ?_⟩
      refine lc_it wk (fun i H' => Same H H' ∧ H' Da = some (.lst (((zs.take i).map fun b => inR b r).map V.bl))) ⟨same_upd na, upd_same⟩ (fun i H' _ h => SqL.of (h.1 _ _ hA.sb)) ?_ ?_
      · rintro u v G5 G6 hu ⟨u5, ea⟩ ⟨rfl, hx⟩
        rw [List.getElem?_map, List.getElem?_map] at hx
        obtain ⟨z, hz, rfl⟩ := Option.map_eq_some_iff.mp hx
        obtain ⟨b, hb1, rfl⟩ := Option.map_eq_some_iff.mp hz
        obtain ⟨s, m, rfl, hs, hm, _⟩ := bar_two (hb b ((mz b).mp (List.mem_of_getElem? hb1)))
        have tz : (tx [s, m]).length ≤ sizeLine := by rw [tx_len, sizeLine_eq]; show 2 ≤ _; omega
        have fin : ∀ bb : Bool, bb = inR [s, m] r → ∃ acc, G6 Da = some (.lst acc) ∧ acc.length < sizeLine ∧ Same H (upd G6 Da (.lst (acc ++ [V.bl bb]))) ∧ upd G6 Da (.lst (acc ++ [V.bl bb])) Da = some (.lst (((zs.take (u + 1)).map fun b => inR b r).map V.bl)) := fun bb ebb => by
          refine ⟨_, ea, ?_, sm_over u5 na, ?_⟩
          · rw [List.length_map, List.length_map, List.length_take, sizeLine_eq]
            omega
          · rw [upd_same, List.take_add_one, hb1, List.map_append, List.map_append, ebb]
            rfl
        have ein : inR [s, m] r = (decide (s ∈ r) && decide (m ∈ r)) := by simp [inR]
        refine ⟨rfl, yes_i ⟨_, rfl, _, _, s, rfl, rfl, tz, rfl, _, rfl, s, tx r, rfl, rfl, ?_⟩⟩
        rw [tx_list]
        refine ⟨_, rfl, ite2 (fun k1 => ?_) (fun k1 => fin false (by rw [ein, Bool.eq_false_iff.mpr k1]; rfl))⟩
        refine ⟨_, rfl, _, _, m, rfl, rfl, tz, rfl, _, rfl, m, tx r, rfl, rfl, ?_⟩
        rw [tx_list]
        exact fin _ (by rw [ein, k1]; rfl)
      · rintro G5 ⟨u5, ea⟩
        rw [List.take_length] at ea
        refine ⟨Da, _, rfl, SqL.of ea, _, rfl, ?_⟩
        have e2 : (!(zs.map fun b => inR b r).any id) = decide (r ∈ rms l bs) := by
          rw [List.any_map, Bool.eq_iff_iff, decide_eq_true_eq]
          unfold rms
          rw [List.mem_filter]
          have e3 : (zs.any (id ∘ fun b => inR b r)) = bs.any fun b => inR b r := by
            rw [Bool.eq_iff_iff, List.any_eq_true, List.any_eq_true]
            exact ⟨fun ⟨b, h1, h2⟩ => ⟨b, (mz b).mp h1, h2⟩, fun ⟨b, h1, h2⟩ => ⟨b, (mz b).mpr h1, h2⟩⟩
          rw [e3]
          exact ⟨fun h => ⟨hall, h⟩, fun h => h.2⟩
        rw [e2]
        exact q _ u5
end
end NC
namespace NC
open PySem PySem.Spec PyProof.Rows L2
theorem rm_len (l : List Nat) (p : Nat → Bool) : (rmOf l p).length = l.length := List.length_map ..
theorem val_small {p : Nat → Bool} {c : Nat} (h : 97 ≤ c ∧ c ≤ 122) : val p c = p c := by unfold val; rw [if_neg (by omega)]
theorem lwc_swp {x : Nat} (h : isLt x) : lwc (swp x) = lwc x := by
  rcases h with z | z
  · rw [swp_small z]
    unfold lwc
    rw [if_pos (by omega), if_neg (by omega)]
    omega
  · rw [swp_great z]
    unfold lwc
    rw [if_neg (by omega), if_pos z]
end NC
namespace NC
open PySem PySem.Spec PyProof.Rows L2
/-- the sign of x at i -/
abbrev SgAt (x : Str) (i : Nat) (v : V) : Prop := ∃ c, x.cps[i]? = some c ∧ v = .str ⟨#[c]⟩
def AtES (x : Str) (t : Tok) (e it : Addr) (i : Nat) (h : Heap) : Prop := (∃ last, IsEnum h e it ((i : Nat) : Int) last) ∧ h.IsStrIter it (strIterType x) x t i ∧ e ≠ it ∧ i ≤ x.cps.size
theorem AtES.olds {x : Str} {t : Tok} {e it : Addr} {i : Nat} {h : Heap} (st : AtES x t e it i h) {b : Addr} (m : b ∈ [e, it]) : b < h.objs.size := by
  obtain ⟨⟨_, g1⟩, ⟨o2, g2, _⟩, _⟩ := st
  rcases List.mem_cons.mp m with rfl | m
  · exact Heap.lt_size g1
  · exact (List.mem_singleton.mp m) ▸ Heap.lt_size g2
def ItZS (x y : Str) : It :=
  ⟨fun i _ => i < x.cps.size ∧ i < y.cps.size, fun i H v H' => ∃ T s u, v = .ref T ∧ H T = none ∧ H' = upd H T (.tup [s, u]) ∧ SgAt x i s ∧ SgAt y i u, fun i _ => x.cps.size ≤ i ∨ y.cps.size ≤ i⟩
def AtZS (x y : Str) (t1 t2 : Tok) (z TI TO i1 i2 : Addr) (i : Nat) (h : Heap) : Prop := IsZip h z TI TO .none ∧ IsTupOf2 h TI (.ref i1) (.ref i2) ∧ (∃ a b, IsTupOf2 h TO a b) ∧ h.IsStrIter i1 (strIterType x) x t1 i ∧ h.IsStrIter i2 (strIterType y) y t2 i ∧ i ≤ x.cps.size ∧ i ≤ y.cps.size
theorem AtZS.olds {x y : Str} {t1 t2 : Tok} {z TI TO i1 i2 : Addr} {i : Nat} {h : Heap} (st : AtZS x y t1 t2 z TI TO i1 i2 i h) : ∀ b ∈ [z, TI, TO, i1, i2], ∃ o, h.get? b = some o ∧ ∀ v, o.data ≠ .cell v := by
  obtain ⟨hz, hI, ⟨a, b, hO⟩, ⟨o1, e1, _, d1⟩, ⟨o2, e2, _, d2⟩, _⟩ := st
  simp only [List.mem_cons, List.not_mem_nil, or_false, forall_eq_or_imp, forall_eq]
  exact ⟨⟨_, hz, nofun⟩, ⟨_, hI, nofun⟩, ⟨_, hO, nofun⟩, ⟨o1, e1, fun v q => nomatch d1.symm.trans q⟩, ⟨o2, e2, fun v q => nomatch d2.symm.trans q⟩⟩
theorem turn_zipS {P : Program} {w : World} {K : PySem.W.Frag} {elts : List Expr} {kk : Nat} {tpos : Pos} (x y : Str) (t1 t2 : Tok) {z TI TO i1 i2 : Addr} (S : ZipSep2 z TI TO i1 i2 [i1] [i2]) :
    Turn P w K (.Tuple elts kk tpos) (ItZS x y) [z, TI, TO, i1, i2] z (AtZS x y t1 t2 z TI TO i1 i2) where
  mem := .head _
  obj := fun i h st b m => st.olds b m
  keep := fun i h h' st k => by
    obtain ⟨hz, hI, ⟨a, b, hO⟩, ⟨o1, e1, r1⟩, ⟨o2, e2, r2⟩, le⟩ := st
    exact ⟨k z (by simp) _ hz, k TI (by simp) _ hI, ⟨a, b, k TO (by simp) _ hO⟩, ⟨o1, k i1 (by simp) _ e1, r1⟩, ⟨o2, k i2 (by simp) _ e2, r2⟩, le⟩
  item := by
    rintro X rfl rfl rfl calm i ps t σ H E I fre st ⟨l1, l2⟩
    have olds := st.olds
    obtain ⟨hz, hI, ⟨a, b, hO⟩, s1, s2, _⟩ := st
    have old : z < t.heap.objs.size := Heap.lt_size hz
    refine wpAny_pyNext_zipD2_item S (Draws.text (prog := X.prog) (w := X.w) (A := X.A.in1) (I.ok.hd calm) i1 x t1) (Draws.text (prog := X.prog) (w := X.w) (A := X.A.in1) (I.ok.hd calm) i2 y t2) hz hI hO s1 s2 l1 l2 fun v1 v2 g tk p1 p2 hz' hO' s1' s2' pair _ stay => ?_
    obtain ⟨c1, u1, h1, rfl⟩ := p1
    obtain ⟨c2, u2, h2, rfl⟩ := p2
    refine ⟨_, rfl, wpAny_letOwnedTupleGo_zip (s := { t with heap := g, toks := tk }) hz' fun g2 hz2 but => ?_⟩
    have pair2 : g2.get? t.heap.objs.size = some { cls := .type "tuple", data := .seq #[.str ⟨#[c1]⟩ u1, .str ⟨#[c2]⟩ u2] } := (but.2 _ (Nat.ne_of_gt old)).trans pair
    have lts : ∀ b ∈ [z, TI, TO, i1, i2], b < t.heap.objs.size := fun b m => let ⟨_, g, _⟩ := olds b m; Heap.lt_size g
    refine ⟨.ref t.heap.objs.size, upd H t.heap.objs.size (.tup [.str ⟨#[c1]⟩, .str ⟨#[c2]⟩]), I.turnedNew (ch := [z, TI, TO, i1, i2]) (fun b o nb q => (but.2 b fun e => nb (by simp [e])).trans (stay b o (fun e => nb (by simp [e])) (fun e => nb (by simp [e])) (fun e => nb (by simp [e])) (fun e => nb (by simp [e])) q)) fre (Nat.le_refl _)
        ⟨by show 2 ≤ sizeLine; decide, [.str ⟨#[c1]⟩ u1, .str ⟨#[c2]⟩ u2], .cons ⟨_, rfl⟩ (.cons ⟨_, rfl⟩ .nil), ⟨_, pair2, rfl, _, rfl⟩⟩, rfl, ⟨_, _, _, rfl, I.hok.fresh (Nat.le_refl _), rfl, ⟨c1, h1, rfl⟩, ⟨c2, h2, rfl⟩⟩, ⟨hz2, ?_, ⟨_, _, (but.2 _ S.TOz).trans hO'⟩, ?_, ?_, l1, l2⟩, fun b m => ?_⟩
    · exact (but.2 _ S.TIz).trans (stay _ _ S.TIz S.TITO S.TIi1 S.TIi2 hI)
    · obtain ⟨o, ho, r⟩ := s1'
      exact ⟨o, (but.2 _ (Ne.symm S.zi1)).trans ho, r⟩
    · obtain ⟨o, ho, r⟩ := s2'
      exact ⟨o, (but.2 _ (Ne.symm S.zi2)).trans ho, r⟩
    · exact (upd_ne (Nat.ne_of_lt (lts b m))).trans (fre b m).1
  done := by
    rintro X rfl rfl rfl calm i ps t σ H E I fre st fin
    obtain ⟨hz, hI, ⟨a, b, hO⟩, s1, s2, le1, le2⟩ := st
    have fin : x.cps.size ≤ i ∨ y.cps.size ≤ i := fin
    refine wpAny_pyNext_zipD2_end S (Draws.text (prog := X.prog) (w := X.w) (A := X.A.in1) (I.ok.hd calm) i1 x t1) (Draws.text (prog := X.prog) (w := X.w) (A := X.A.in1) (I.ok.hd calm) i2 y t2) hz hI hO s1 s2 le1 le2 (by omega) fun g tk stay => ?_
    exact ⟨rfl, I.turnedL (t' := tk) (ch := [z, TI, TO, i1, i2]) (fun b o nb q => stay b o (fun e => nb (by simp [e])) (fun e => nb (by simp [e])) (fun e => nb (by simp [e])) (fun e => nb (by simp [e])) q) fre⟩
  self := fun _ _ _ _ _ st h => wpAny_pyIter_zip st.1 h
def iZipS (ta : TA) : TI := fun σ H R => ta σ H fun vs H1 => ∃ x y, vs = [.str x, .str y] ∧ R (ItZS x y) H1
theorem pi_zipS {X : Cx} {e e2 : Expr} {ta : TA} {p pos tpos : Pos} {elts : List Expr} {kk : Nat} (gl : Gl X "zip") (bi : X.mg "zip" = none) (arg : PA X [e, e2] ta)
    (st : starEach [e, e2] X.env = (false, eval e X.env) :: starEach [e2] X.env := by rfl) (pl : (backTo pos (starEach [e2] X.env)).any (·.1) = false := by rfl) :
    PI X (.Tuple elts kk tpos) (.Call (.Name "zip" p) [e, e2] [] pos) (iZipS ta) := by
  refine ⟨fun ps t σ H R I h => Call_ (ld_blt I gl bi PyProof.Rows.boot_zip (PyProof.Rows.callWith_type1 (thn (arg.run pos ps t σ H _ I h) fun us v r => ?_) st pl))⟩
  obtain ⟨vs, G, J, rv, x, y, rfl, r⟩ := r
  cases rv with
  | cons r1 rr =>
    cases rr with
    | cons r2 rr =>
      cases rr
      obtain ⟨t1, rfl⟩ := r1
      obtain ⟨t2, rfl⟩ := r2
      refine zip_begins2 (begins_text x t1) (begins_text y t2) trivial trivial fun g hz hI hO g1 g2 _ stay => wpAny_pyIter_zip hz ?_
      have new : ∀ b ∈ [v.heap.objs.size + 4, v.heap.objs.size + 2, v.heap.objs.size + 3, v.heap.objs.size, v.heap.objs.size + 1], FpOk X ps G b := fun b m => by
        have up : v.heap.objs.size ≤ b := by
          simp at m
          omega
        exact J.fpOk up (J.hok.fresh up)
      exact ⟨_, _, _, _, G, rfl, J.kept (t' := v.toks) stay, turn_zipS x y t1 t2 (zip_sep2 (fp1 := []) (fp2 := []) (fun _ h => nomatch h) (fun _ h => nomatch h)), ⟨hz, hI, ⟨_, _, hO⟩, ⟨_, g1, rfl, rfl⟩, ⟨_, g2, rfl, rfl⟩, Nat.zero_le _, Nat.zero_le _⟩, new, r⟩
theorem walk_zipS {x y : Str} {n : Nat} (hn : n = min x.cps.size y.cps.size) : Walk (ItZS x y) n (fun _ => True) (fun i H v H' => ∃ T s u, v = .ref T ∧ H T = none ∧ H' = upd H T (.tup [s, u]) ∧ SgAt x i s ∧ SgAt y i u) :=
  ⟨fun i _ hi _ => ⟨by omega, by omega⟩, fun _ _ => by show _ ∨ _; omega, fun _ _ _ _ _ _ y => y⟩
/-- a statement that is never come to -/
theorem ps_dead {X : Cx} {st : Stmt} : PS X st (fun _ _ _ => False) := ⟨fun _ _ _ _ _ _ h => h.elim⟩
end NC
namespace NC
open PySem PySem.Spec PyProof.Rows L2
abbrev sChkRoom : Stmt := topS 27
theorem scChkRoom : FnScope ["hall", "room"] ["hall", "room"] (defScope sChkRoom) := ⟨rfl, rfl, rfl, by decide +kernel, rfl, by decide +kernel, by decide +kernel⟩
/-- a hall that was let by, at x -/
structure HallG (C : Addr) (H : Hp) (x dx sb D : Addr) (l : List Nat) (ys : List Str) (fo : Nat → List Nat) (bs : List (List Nat)) : Prop where
  hA : HallAt C H x dx sb D l ys fo
  g : GoodW l
  bar : ∀ b ∈ bs, isBar l b = true
  perm : ys.Perm (bs.map tx)
  len : bs.length ≤ 64
  ok : Okv l bs
theorem HallG.same {C : Addr} {H H' : Hp} {x dx sb D : Addr} {l : List Nat} {ys : List Str} {fo : Nat → List Nat} {bs : List (List Nat)} (h : HallG C H x dx sb D l ys fo bs) (s : Same H H') : HallG C H' x dx sb D l ys fo bs := ⟨h.hA.same s, h.g, h.bar, h.perm, h.len, h.ok⟩
theorem rms_lets {l : List Nat} (g : GoodW l) {bs : List (List Nat)} : ∀ r ∈ rms l bs, r.length = l.length ∧ ∀ c ∈ r, isLt c := fun r hr => by
  have hm : r ∈ allT l l.length := by
    unfold rms at hr
    exact (List.mem_filter.mp hr).1
  obtain ⟨p, rfl⟩ := (allT_mem g.nd (Nat.le_refl _) r).mp hm
  rw [List.take_length]
  exact ⟨rm_len l p, fun c hc => sds_lt g (rm_asc g hc)⟩
theorem cutS_from (l : List Nat) (j : Nat) : cutS (tx l) (some ((j : Nat) : Int)) none = tx (l.drop j) := by
  unfold cutS
  rw [HT.sIx_none, HT.sIx_nat, tx_list, tx_len]
  show Str.mk _ = Str.mk _
  congr 1
  rcases Nat.le_total j l.length with h | h
  · rw [Nat.min_eq_left h, List.take_of_length_le (by rw [List.length_drop]; exact Nat.le_refl _)]
  · rw [Nat.min_eq_right h, List.drop_of_length_le (Nat.le_refl _), List.drop_of_length_le h]
    simp
end NC
namespace NC
open PySem PySem.Spec PyProof.Rows L2
/-- a part: sides of rising walls -/
structure Part (l P : List Nat) : Prop where
  sub : (P.map lwc).Sublist l
  sd : ∀ c ∈ P, c ∈ sds l
def allFo (fo : Nat → List Nat) (P : List Nat) : List Nat := P.flatMap fo
def tornL (l W : List Nat) : List Nat := l.filter fun c => decide (c ∈ W) && decide (swp c ∈ W)
def byWT (l W : List Nat) : List Nat := l.flatMap fun c => [swp c, c].filter fun e => decide (e ∈ W)
def wov (W r : List Nat) : List Nat := r.map fun s => if swp s ∈ W then swp s else s
theorem Part.len {l P : List Nat} (h : Part l P) : P.length ≤ l.length := by
  have := h.sub.length_le
  rw [List.length_map] at this
  exact this
theorem byWT_mem {l : List Nat} (g : GoodW l) {W : List Nat} {s : Nat} : s ∈ byWT l W ↔ s ∈ sds l ∧ s ∈ W := by
  unfold byWT
  rw [List.mem_flatMap]
  constructor
  · rintro ⟨c, hc, hs⟩
    obtain ⟨h1, h2⟩ := List.mem_filter.mp hs
    refine ⟨?_, of_decide_eq_true h2⟩
    rcases List.mem_cons.mp h1 with e | e
    · rw [e]; exact sds_swp g (sds_of_small hc)
    · rw [List.mem_singleton.mp e]; exact sds_of_small hc
  · rintro ⟨h1, h2⟩
    rcases sds_shape g h1 with z | z
    · exact ⟨s, z.2.2, List.mem_filter.mpr ⟨List.mem_cons_of_mem _ (List.mem_singleton.mpr rfl), decide_eq_true h2⟩⟩
    · refine ⟨s + 32, z.2.2, List.mem_filter.mpr ⟨?_, decide_eq_true h2⟩⟩
      rw [swp_small (by omega)]
      exact List.mem_cons.mpr (.inl (by omega))
theorem byWT_len (l W : List Nat) : (byWT l W).length ≤ 2 * l.length := by
  induction l with
  | nil => simp [byWT]
  | cons x r ih =>
    have h1 : (byWT (x :: r) W) = ([swp x, x].filter fun e => decide (e ∈ W)) ++ byWT r W := by simp [byWT]
    rw [h1, List.length_append, List.length_cons]
    have h2 : ([swp x, x].filter fun e => decide (e ∈ W)).length ≤ 2 := List.length_filter_le _ _
    omega
theorem byWT_snoc (l : List Nat) (n : Nat) (c : Nat) (W : List Nat) (h : l[n]? = some c) : byWT (l.take (n + 1)) W = byWT (l.take n) W ++ [swp c, c].filter fun e => decide (e ∈ W) := by
  rw [List.take_add_one, h]
  unfold byWT
  rw [List.flatMap_append]
  simp
section
variable {l : List Nat} (g : GoodW l) {bs : List (List Nat)} (hb : ∀ b ∈ bs, isBar l b = true) {fo : Nat → List Nat} (hf : ∀ s ∈ sds l, ∀ t, t ∈ fo s ↔ Frc (adjOf bs) s t)
include g hb hf
theorem allFo_mem {P : List Nat} (hP : ∀ c ∈ P, c ∈ sds l) {t : Nat} : t ∈ allFo fo P ↔ ∃ s ∈ P, Frc (adjOf bs) s t := by
  unfold allFo
  rw [List.mem_flatMap]
  exact ⟨fun ⟨s, hs, h⟩ => ⟨s, hs, (hf s (hP s hs) t).mp h⟩, fun ⟨s, hs, h⟩ => ⟨s, hs, (hf s (hP s hs) t).mpr h⟩⟩
theorem allFo_sd {P : List Nat} (hP : ∀ c ∈ P, c ∈ sds l) {t : Nat} (h : t ∈ allFo fo P) : t ∈ sds l := by
  obtain ⟨s, hs, k⟩ := (allFo_mem g hb hf hP).mp h
  exact Frc.mem g hb (hP s hs) k
theorem allFo_adj {P : List Nat} (hP : ∀ c ∈ P, c ∈ sds l) {t u : Nat} (h : t ∈ allFo fo P) (k : u ∈ adjOf bs t) : u ∈ allFo fo P := by
  obtain ⟨s, hs, z⟩ := (allFo_mem g hb hf hP).mp h
  exact (allFo_mem g hb hf hP).mpr ⟨s, hs, z.step k⟩
theorem allFo_self {P : List Nat} (hP : ∀ c ∈ P, c ∈ sds l) {t : Nat} (h : t ∈ P) : t ∈ allFo fo P := (allFo_mem g hb hf hP).mpr ⟨t, h, Frc.refl⟩
/-- what a room has of a part it has of all that is forced -/
theorem allFo_in {P : List Nat} (hP : ∀ c ∈ P, c ∈ sds l) {q : List Nat} (hq : q ∈ rms l bs) (hin : ∀ s ∈ P, s ∈ q) {t : Nat} (h : t ∈ allFo fo P) : t ∈ q := by
  obtain ⟨p, rfl, sp⟩ := (rms_mem g hb q).mp hq
  obtain ⟨s, hs, z⟩ := (allFo_mem g hb hf hP).mp h
  have v := Sat.frc g hb sp ((rm_mem g (hP s hs)).mp (hin s hs)) z
  exact (rm_mem g (Frc.mem g hb (hP s hs) z)).mpr v
theorem room_one {q : List Nat} (hq : q ∈ rms l bs) {t : Nat} (ht : t ∈ sds l) (h1 : t ∈ q) (h2 : swp t ∈ q) : False := by
  obtain ⟨p, rfl, sp⟩ := (rms_mem g hb q).mp hq
  have v1 := (rm_mem g ht).mp h1
  have v2 := (rm_mem g (sds_swp g ht)).mp h2
  rw [val_swp (sds_lt g ht), v1] at v2
  cases v2
theorem torn_no {P : List Nat} (hP : ∀ c ∈ P, c ∈ sds l) {q : List Nat} (hq : q ∈ rms l bs) (hin : ∀ s ∈ P, s ∈ q) : tornL l (allFo fo P) = [] := by
  unfold tornL
  rw [List.filter_eq_nil_iff]
  intro c hc h
  rw [Bool.and_eq_true, decide_eq_true_eq, decide_eq_true_eq] at h
  exact room_one g hb hf hq (sds_of_small hc) (allFo_in g hb hf hP hq hin h.1) (allFo_in g hb hf hP hq hin h.2)
/-- what is written over a room is a room of the part -/
theorem wov_room {P : List Nat} (hP : ∀ c ∈ P, c ∈ sds l) {q r : List Nat} (hq : q ∈ rms l bs) (hin : ∀ s ∈ P, s ∈ q) (hr : r ∈ rms l bs) : wov (allFo fo P) r ∈ rms l bs ∧ ∀ s ∈ P, s ∈ wov (allFo fo P) r := by
  have hW : ∀ {t}, t ∈ allFo fo P → t ∈ q := fun h => allFo_in g hb hf hP hq hin h
  have hWs : ∀ {t}, t ∈ allFo fo P → t ∈ sds l := fun h => allFo_sd g hb hf hP h
  have one : ∀ {t}, t ∈ allFo fo P → swp t ∈ allFo fo P → False := fun h1 h2 => room_one g hb hf hq (hWs h1) (hW h1) (hW h2)
  obtain ⟨p, rfl, sp⟩ := (rms_mem g hb r).mp hr
  have self : ∀ {t}, t ∈ P → t ∈ allFo fo P := fun h => allFo_self g hb hf hP h
  have adj : ∀ {t u}, t ∈ allFo fo P → u ∈ adjOf bs t → u ∈ allFo fo P := fun h k => allFo_adj g hb hf hP h k
  generalize allFo fo P = W at hW hWs one self adj
  have eN : wov W (rmOf l p) = rmOf l (fun c => if c ∈ W then true else if upc c ∈ W then false else p c) := by
    unfold wov rmOf
    rw [List.map_map]
    refine List.map_congr_left fun c hc => ?_
    have sm := g.sm c hc
    show (if swp (if p c then c else upc c) ∈ W then swp (if p c then c else upc c) else (if p c then c else upc c)) = _
    have e1 : swp c = upc c := by rw [swp_small sm, upc_small sm]
    have e2 : swp (upc c) = c := by rw [upc_small sm, swp_great (by omega)]; omega
    have no : c ∈ W → upc c ∈ W → False := fun h1 h2 => one h1 (by rw [e1]; exact h2)
    by_cases hp : p c = true
    · simp only [hp, if_true, e1]
      by_cases h1 : c ∈ W
      · by_cases h2 : upc c ∈ W
        · exact (no h1 h2).elim
        · simp [h1, h2]
      · by_cases h2 : upc c ∈ W <;> simp [h1, h2]
    · simp only [hp, e2]
      by_cases h1 : c ∈ W
      · simp [h1, e2]
      · by_cases h2 : upc c ∈ W <;> simp [h1, h2, e2]
  generalize hpN : (fun c => if c ∈ W then true else if upc c ∈ W then false else p c) = pN at eN
  have vW : ∀ {t}, t ∈ sds l → t ∈ W → val pN t = true := fun {t} ht h => by
    rcases sds_shape g ht with z | z
    · rw [val_small ⟨z.1, z.2.1⟩, ← hpN]
      simp [h]
    · have hn : t + 32 ∉ W := fun k => one h (by rw [swp_great ⟨z.1, z.2.1⟩]; exact k)
      have hu : upc (t + 32) = t := by rw [upc_small (by omega)]; omega
      unfold val
      rw [if_pos (by omega), ← hpN]
      simp [hn, hu, h]
  have vr : ∀ {t}, t ∈ sds l → t ∉ W → val pN t = true → val p t = true := fun {t} ht h v => by
    have hn : swp t ∉ W := fun k => by
      have := vW (sds_swp g ht) k
      rw [val_swp (sds_lt g ht), v] at this
      cases this
    rcases sds_shape g ht with z | z
    · rw [swp_small ⟨z.1, z.2.1⟩, ← upc_small ⟨z.1, z.2.1⟩] at hn
      rw [val_small ⟨z.1, z.2.1⟩, ← hpN] at v
      rw [val_small ⟨z.1, z.2.1⟩]
      simpa [h, hn] using v
    · rw [swp_great ⟨z.1, z.2.1⟩] at hn
      have hu : upc (t + 32) = t := by rw [upc_small (by omega)]; omega
      unfold val at v ⊢
      rw [if_pos (by omega), ← hpN] at v
      rw [if_pos (by omega)]
      simpa [hn, hu, h] using v
  refine ⟨?_, fun s hs => ?_⟩
  · rw [eN]
    refine (rms_mem g hb _).mpr ⟨pN, rfl, fun x y hxy ⟨v1, v2⟩ => ?_⟩
    obtain ⟨x', y', e, hx, hy, _⟩ := bar_two (hb _ hxy)
    cases e
    by_cases h1 : x ∈ W
    · have := adj h1 ((adj_iff g hb (sds_lt g (sds_swp g hy))).mpr (.inl (by rw [swp_swp (sds_lt g hy)]; exact hxy)))
      have := vW (sds_swp g hy) this
      rw [val_swp (sds_lt g hy), v2] at this
      cases this
    · by_cases h2 : y ∈ W
      · have := adj h2 ((adj_iff g hb (sds_lt g (sds_swp g hx))).mpr (.inr (by rw [swp_swp (sds_lt g hx)]; exact hxy)))
        have := vW (sds_swp g hx) this
        rw [val_swp (sds_lt g hx), v1] at this
        cases this
      · exact sp x y hxy ⟨vr hx h1 v1, vr hy h2 v2⟩
  · rw [eN]
    exact (rm_mem g (hP s hs)).mpr (vW (hP s hs) (self hs))
end
theorem upc_ne {c : Nat} (h : 97 ≤ c ∧ c ≤ 122) : upc c ≠ c := by rw [upc_small h]; omega
theorem allT_nd {l : List Nat} (sm : ∀ c ∈ l, 97 ≤ c ∧ c ≤ 122) : ∀ k, k ≤ l.length → (allT l k).Nodup
  | 0, _ => by simp [allT]
  | k + 1, h => by
    have ih := allT_nd sm k (by omega)
    have hk : k < l.length := by omega
    have ne : upc (l.getD k 0) ≠ l.getD k 0 := by
      have : l.getD k 0 = l[k] := by rw [List.getD_eq_getElem?_getD, List.getElem?_eq_getElem hk]; rfl
      rw [this]
      exact upc_ne (sm _ (List.getElem_mem hk))
    show ((allT l k).flatMap fun r => [r ++ [upc (l.getD k 0)], r ++ [l.getD k 0]]).Nodup
    generalize allT l k = L at ih
    induction L with
    | nil => simp
    | cons x r ih2 =>
      have h1 := List.nodup_cons.mp ih
      rw [List.flatMap_cons, List.nodup_append]
      refine ⟨?_, ih2 h1.2, fun a ha b hb e => ?_⟩
      · rw [List.nodup_cons]
        refine ⟨fun z => ?_, by simp⟩
        have := List.mem_singleton.mp z
        have := List.append_cancel_left this
        exact ne (by simpa using this)
      · subst e
        obtain ⟨y, hy, hm⟩ := List.mem_flatMap.mp hb
        have e1 : a.dropLast = x := by
          rcases List.mem_cons.mp ha with z | z
          · rw [z]; simp
          · rw [List.mem_singleton.mp z]; simp
        have e2 : a.dropLast = y := by
          rcases List.mem_cons.mp hm with z | z
          · rw [z]; simp
          · rw [List.mem_singleton.mp z]; simp
        rw [← e1, e2] at h1
        exact h1.1 hy
theorem rms_nd {l : List Nat} (g : GoodW l) {bs : List (List Nat)} : (rms l bs).Nodup := by
  unfold rms
  exact (allT_nd g.sm _ (Nat.le_refl _)).sublist List.filter_sublist
theorem part_pw {l P : List Nat} (g : GoodW l) (h : Part l P) : (P.map lwc).Pairwise (· < ·) := g.rise.sublist h.sub
end NC
namespace NC
open PySem PySem.Spec PyProof.Rows L2
abbrev sHwalls : Stmt := inClass (topS 33) 1
abbrev sHforced : Stmt := inClass (topS 33) 3
abbrev sIsPart : Stmt := topS 35
abbrev sChkPart : Stmt := topS 36
abbrev sAllFB : Stmt := topS 37
abbrev sTorn : Stmt := topS 38
theorem scHwalls : FnScope ["self"] ["self"] (defScope sHwalls) := ⟨rfl, rfl, rfl, by decide +kernel, rfl, by decide +kernel, by decide +kernel⟩
theorem scHforced : FnScope ["self", "side"] ["self", "side"] (defScope sHforced) := ⟨rfl, rfl, rfl, by decide +kernel, rfl, by decide +kernel, by decide +kernel⟩
abbrev nIsPart : List Str := ["hall", "part", "walls", "ahead", "wall"]
theorem scIsPart : FnScope nIsPart ["hall", "part"] (defScope sIsPart) := ⟨rfl, rfl, rfl, by decide +kernel, rfl, by decide +kernel, by decide +kernel⟩
theorem scChkPart : FnScope ["hall", "part"] ["hall", "part"] (defScope sChkPart) := ⟨rfl, rfl, rfl, by decide +kernel, rfl, by decide +kernel, by decide +kernel⟩
theorem scAllFB : FnScope ["hall", "part", "side"] ["hall", "part"] (defScope sAllFB) := ⟨rfl, rfl, rfl, by decide +kernel, rfl, by decide +kernel, by decide +kernel⟩
theorem scTorn : FnScope ["hall", "part", "sides", "wall"] ["hall", "part"] (defScope sTorn) := ⟨rfl, rfl, rfl, by decide +kernel, rfl, by decide +kernel, by decide +kernel⟩
structure HP (K : PySem.W.Frag) (C fw ff : Addr) (dw df : FuncData) : Prop where
  mw : Meth K C "walls" fw
  Fw : Fun K "walls" "Hall.walls" sHwalls fw dw
  bw : Binds K dw ["self"] []
  mf : Meth K C "forced" ff
  Ff : Fun K "forced" "Hall.forced" sHforced ff df
  bf : Binds K df ["self", "side"] []
/-- a hall of which it is known what its sides force -/
structure HallF (C : Addr) (H : Hp) (x dx sb D : Addr) (l : List Nat) (ys : List Str) (fo : Nat → List Nat) (bs : List (List Nat)) : Prop where
  G : HallG C H x dx sb D l ys fo bs
  hf : ∀ s ∈ sds l, ∀ t, t ∈ fo s ↔ Frc (adjOf bs) s t
  fl : ∀ s ∈ sds l, (fo s).length ≤ 24
theorem HallF.same {C : Addr} {H H' : Hp} {x dx sb D : Addr} {l : List Nat} {ys : List Str} {fo : Nat → List Nat} {bs : List (List Nat)} (h : HallF C H x dx sb D l ys fo bs) (s : Same H H') : HallF C H' x dx sb D l ys fo bs := ⟨h.G.same s, h.hf, h.fl⟩
theorem allFo_len {l : List Nat} {fo : Nat → List Nat} (fl : ∀ s ∈ sds l, (fo s).length ≤ 24) : ∀ {P : List Nat}, (∀ c ∈ P, c ∈ sds l) → (allFo fo P).length ≤ 24 * P.length
  | [], _ => by simp [allFo]
  | x :: r, h => by
    have e : allFo fo (x :: r) = fo x ++ allFo fo r := by simp [allFo]
    have h1 := fl x (h x (List.mem_cons_self ..))
    have h2 := allFo_len fl (P := r) fun c hc => h c (List.mem_cons_of_mem _ hc)
    rw [e, List.length_append, List.length_cons]
    omega
theorem sum_txs (xs : List (List Nat)) : ((xs.map tx).map (·.length)).sum = xs.flatten.length := by
  induction xs with
  | nil => rfl
  | cons x r ih => rw [List.map_cons, List.map_cons, List.sum_cons, ih, List.flatten_cons, List.length_append, tx_len]
theorem sum_sgs (xs : List Nat) : ((xs.map sg).map (·.length)).sum = xs.length := by
  induction xs with
  | nil => rfl
  | cons x r ih =>
    rw [List.map_cons, List.map_cons, List.sum_cons, ih, List.length_cons]
    show 1 + r.length = _
    omega
section
variable {P : Program} {w : World} {K : PySem.W.Frag} {mg : Str → Option Value} {base : Heap} {C fi fb fm fr fg fw ff : Addr} {di db dm dr dg dw df : FuncData}
def spHwalls (C : Addr) : Sp := fun vs H Q _ => ∃ x dx sb D l ys fo, vs = [.ref x] ∧ HallAt C H x dx sb D l ys fo ∧ Q (.str (tx l)) H
theorem ok_Hwalls {k : Nat} (Z : HC K mg C fi fb di db) (Y : HP K C fw ff dw df) : FnOk P w K mg base CX0 (k + 1) fw dw ["self"] (spHwalls C) := by
  refine Y.Fw.ok scHwalls (fun vs H Q E h => ?_) (fun cdv A outer st H vs Q E hr h => ?_)
  · obtain ⟨x, dx, sb, D, l, ys, fo, rfl, _⟩ := h
    rfl
  · obtain ⟨x, dx, sb, D, l, ys, fo, rfl, hA, q⟩ := h
    refine ⟨_, pss_one (ps_ret (pe_fld (pv 0) rfl)), ?_⟩
    exact ⟨_, rfl, x, C, dx, _, .str (tx l), rfl, hA.x, Z.cl, Z.n1, rfl, q⟩
def spHforced (C : Addr) : Sp := fun vs H Q _ => ∃ x dx sb D l ys fo s, vs = [.ref x, .str (sg s)] ∧ HallAt C H x dx sb D l ys fo ∧ GoodW l ∧ s ∈ sds l ∧ ∀ H', Same H H' → Q (.str (tx (fo s))) H'
theorem ok_Hforced {fC fS : Addr} {dC dS : FuncData} {k : Nat} (B : BM mg) (Z : HC K mg C fi fb di db) (Y : HP K C fw ff dw df) (Cs : DF K mg "check_side" sChkSide ["walls", "side"] fC dC) (S : DF K mg "sides_of" sSides ["walls"] fS dS) : FnOk P w K mg base CX0 (k + 3) ff df ["self", "side"] (spHforced C) := by
  have GS := ok_chkSide (P := P) (w := w) (base := base) (k := k) B Cs.F S
  refine Y.Ff.ok scHforced (fun vs H Q E h => ?_) (fun cdv A outer st H vs Q E hr h => ?_)
  · obtain ⟨x, dx, sb, D, l, ys, fo, s, rfl, _⟩ := h
    rfl
  · obtain ⟨x, dx, sb, D, l, ys, fo, s, rfl, hA, g, hs, q⟩ := h
    refine ⟨_, pss_cons (ps_expr (pe_call GS hr rfl Cs.g Cs.F.kp Cs.b .nil pass0 (pa_cons (pe_fld (pv 0) rfl) (pa_cons (pv 1) pa_nil)))) (pss_one (ps_ret (pe_dget (hu_of hr) (pe_fld (pv 0) rfl) (pv 1) (fun _ _ => rfl)))), ?_⟩
    refine ⟨_, rfl, x, C, dx, _, .str (tx l), rfl, hA.x, Z.cl, Z.n1, rfl, _, rfl, l, s, rfl, g, hs, fun H1 s1 => ?_⟩
    have hA1 := hA.same s1
    exact ⟨_, rfl, x, C, dx, _, .ref D, rfl, hA1.x, Z.cl, Z.n3, rfl, _, rfl, D, _, rfl, foK_get hA1.D hs, q H1 s1⟩
def spIsPart (C : Addr) : Sp := fun vs H Q _ => ∃ x dx sb D l ys fo P, vs = [.ref x, .str (tx P)] ∧ HallAt C H x dx sb D l ys fo ∧ GoodW l ∧ Part l P ∧ ∀ H', Same H H' → Q (.bl true) H'
set_option maxHeartbeats 1000000 in
theorem ok_isPart {f : Addr} {fd : FuncData} {k : Nat} (Z : HC K mg C fi fb di db) (Y : HP K C fw ff dw df) (F : Fun K "is_part" "is_part" sIsPart f fd) : FnOk P w K mg base CX0 (k + 2) f fd ["hall", "part"] (spIsPart C) := by
  have GW : FnOk P w K mg base CX0 (k + 1) fw dw ["self"] (spHwalls C) := ok_Hwalls Z Y
  refine F.ok scIsPart (fun vs H Q E h => ?_) (fun cdv A outer st H vs Q E hr h => ?_)
  · obtain ⟨x, dx, sb, D, l, ys, fo, P, rfl, _⟩ := h
    rfl
  · obtain ⟨x, dx, sb, D, l, ys, fo, P, rfl, hA, g, hP, q⟩ := h
    have nd := scIsPart.nd
    have hl12 := g.hi
    refine ⟨_, pss_cons (ps_set (i := 2) nd rfl (.inl rfl) (pe_meth0 (pv 0) Z.cl Y.mw GW hr Y.bw .nil pass0))
      (pss_cons (ps_set (i := 3) nd rfl (.inl rfl) pe_str)
      (pss_cons (ps_for PassesOwn.never rfl (pi_str (pe_lower (pv 1))) (pg_name (i := 4) nd rfl (.inl rfl))
        (pss_cons (ps_if (PW.pt (pw_or (pt_cmpR op_notIn_sign (pv 4) (pv 2) (by rfl)) (pw_or1 (pt_cmpR op_le_str (pv 4) (pv 3) (nomark _))))) (pss_one (ps_ret pe_bl)) pss_nil)
        (pss_one (ps_set (i := 3) nd rfl (.inl rfl) (pv 4)))))
      (pss_one (ps_ret pe_bl)))), ?_⟩
    refine ⟨_, rfl, x, dx, _, rfl, hA.x, rfl, x, dx, sb, D, l, ys, fo, rfl, hA, ?_⟩
    have pa : ∀ c ∈ P, c < 128 := fun c hc => sds_asc g (hP.sd c hc)
    have pl := hP.len
    refine ⟨_, rfl, ⟨_, rfl⟩, _, rfl, rfl, by show P.toArray.size ≤ 5592405; rw [List.size_toArray]; omega, ?_⟩
    rw [lower_tx pa]
    refine ⟨_, rfl, ?_⟩
    have lz : (tx (P.map lwc)).cps.size = P.length := by rw [show (tx (P.map lwc)).cps.size = (P.map lwc).length from tx_len _, List.length_map]
    have wk := walk_str (z := tx (P.map lwc))
    rw [lz] at wk
    have pw := part_pw g hP
    have sub := hP.sub
    generalize hS : P.map lwc = S at *
    have sl : S.length = P.length := by rw [← hS, List.length_map]
    refine for_it wk (fun i σ H' => ∃ (a : List Nat) (y4 : Option V), σ = [some (.ref x), some (.str (tx P)), some (.str (tx l)), some (.str (tx a)), y4] ∧ Same H H' ∧ ∀ c, S[i]? = some c → a < [c]) ⟨[], _, by rw [str00]; rfl, L2.Same.refl _, fun c _ => by simp⟩ (fun _ _ _ _ _ => trivial) ?_ ?_
    · rintro i v σ H1 H2 hi ⟨a, y4, rfl, s1, ha⟩ ⟨rfl, c, hc, rfl⟩
      have hc : S[i]? = some c := by
        rw [← Array.getElem?_toList, tx_list] at hc
        exact hc
      have cl : c ∈ l := sub.subset (List.mem_of_getElem? hc)
      refine ⟨_, rfl, _, rfl, c, tx l, rfl, rfl, _, rfl, ?_⟩
      rw [tx_list, decide_eq_true cl]
      refine iteF ⟨_, rfl, _, rfl, _, _, rfl, rfl, _, rfl, ?_⟩
      rw [show (⟨#[c]⟩ : Str).cps.toList = [c] from rfl, tx_list, decide_eq_true (ha c hc)]
      refine iteF ⟨_, rfl, [c], _, rfl, s1, fun e he => ?_⟩
      rw [lt1]
      have hi1 := (List.getElem?_eq_some_iff.mp hc)
      have hi2 := (List.getElem?_eq_some_iff.mp he)
      have := List.pairwise_iff_getElem.mp pw i (i + 1) hi1.1 hi2.1 (by omega)
      rw [hi1.2, hi2.2] at this
      exact this
    · rintro σ H1 ⟨a, y4, rfl, s1, ha⟩
      exact q H1 s1
def spChkPart (C : Addr) : Sp := fun vs H Q _ => ∃ x dx sb D l ys fo P, vs = [.ref x, .str (tx P)] ∧ HallAt C H x dx sb D l ys fo ∧ GoodW l ∧ Part l P ∧ ∀ H', Same H H' → Q .non H'
theorem ok_chkPart {f fI : Addr} {fd dI : FuncData} {k : Nat} (Z : HC K mg C fi fb di db) (Y : HP K C fw ff dw df) (F : Fun K "check_part" "check_part" sChkPart f fd) (I : DF K mg "is_part" sIsPart ["hall", "part"] fI dI) : FnOk P w K mg base CX0 (k + 3) f fd ["hall", "part"] (spChkPart C) := by
  have GI : FnOk P w K mg base CX0 (k + 2) fI dI ["hall", "part"] (spIsPart C) := ok_isPart Z Y I.F
  refine F.ok scChkPart (fun vs H Q E h => ?_) (fun cdv A outer st H vs Q E hr h => ?_)
  · obtain ⟨x, dx, sb, D, l, ys, fo, P, rfl, _⟩ := h
    rfl
  · obtain ⟨x, dx, sb, D, l, ys, fo, P, rfl, hA, g, hP, q⟩ := h
    refine ⟨_, pss_one (ps_if (pt_not (pt_val (pe_call GI hr rfl I.g I.F.kp I.b .nil pass0 (pa_cons (pv 0) (pa_cons (pv 1) pa_nil))))) (pss_one ps_dead) pss_nil), ?_⟩
    exact ⟨_, rfl, _, rfl, x, dx, sb, D, l, ys, fo, P, rfl, hA, g, hP, fun H1 s1 => ⟨_, rfl, iteF (q H1 s1)⟩⟩
def spAllFB (C : Addr) : Sp := fun vs H Q _ => ∃ x dx sb D l ys fo P, vs = [.ref x, .str (tx P)] ∧ HallAt C H x dx sb D l ys fo ∧ GoodW l ∧ (∀ s ∈ sds l, (fo s).length ≤ 24) ∧ (∀ c ∈ P, c ∈ sds l) ∧ P.length ≤ 100 ∧ ∀ H', Same H H' → Q (.str (tx (allFo fo P))) H'
set_option maxHeartbeats 1000000 in
theorem ok_allFB {f fC fS : Addr} {fd dC dS : FuncData} {k : Nat} (B : BM mg) (Z : HC K mg C fi fb di db) (Y : HP K C fw ff dw df) (Cs : DF K mg "check_side" sChkSide ["walls", "side"] fC dC) (S : DF K mg "sides_of" sSides ["walls"] fS dS) (F : Fun K "all_forced_by" "all_forced_by" sAllFB f fd) : FnOk P w K mg base CX0 (k + 4) f fd ["hall", "part"] (spAllFB C) := by
  have GF : FnOk P w K mg base CX0 (k + 3) ff df ["self", "side"] (spHforced C) := ok_Hforced B Z Y Cs S
  refine F.ok scAllFB (fun vs H Q E h => ?_) (fun cdv A outer st H vs Q E hr h => ?_)
  · obtain ⟨x, dx, sb, D, l, ys, fo, P, rfl, _⟩ := h
    rfl
  · obtain ⟨x, dx, sb, D, l, ys, fo, P, rfl, hA, g, fl, hP, hn, q⟩ := h
    have nd := scAllFB.nd
    refine ⟨_, pss_one (ps_ret (pe_join pe_str (pe_lc (own := [("side", 2)]) (g := gName 2) (tt := tYes) (te := tMeth C "forced" (spHforced C) [] E0 (tVar 0) (tCons (tVar 2) tNil)) rfl nd (pi_str (pv 1)) (blkOk_by (N := ["hall", "part", "side"]) (sc := defScope sAllFB) (by decide +kernel)) (fun _ _ _ _ _ => pg_name (i := 2) nd rfl (Or.inl rfl)) (fun _ _ _ _ _ => pts_nil)
      (fun _ _ _ _ _ => pe_meth (pv 0) Z.cl Y.mf GF hr Y.bf .nil pass0 (pa_cons (pv 2) pa_nil))))), ?_⟩
    refine ⟨⟨_, rfl⟩, _, rfl, tx P, rfl, fun Da na => ?_⟩
    have lz : (tx P).cps.size = P.length := tx_len _
    have wk := walk_str (z := tx P)
    rw [lz] at wk
    refine lc_it wk (fun i H' => Same H H' ∧ H' Da = some (.lst ((((P.take i).map fo).map tx).map V.str))) ⟨same_upd na, upd_same⟩ (fun _ _ _ _ => trivial) ?_ ?_
    · rintro i v H1 H2 hi ⟨s1, e1⟩ ⟨rfl, c, hc, rfl⟩
      have hc : P[i]? = some c := by
        rw [← Array.getElem?_toList, tx_list] at hc
        exact hc
      have hA1 := hA.same s1
      refine ⟨rfl, yes_i ⟨_, rfl, x, dx, _, rfl, hA1.x, rfl, _, rfl, x, dx, sb, D, l, ys, fo, c, rfl, hA1, g, hP c (List.mem_of_getElem? hc), fun H3 s3 => ⟨_, s3 _ _ e1, ?_, sm_over (sm_trans s1 s3) na, ?_⟩⟩⟩
      · rw [List.length_map, List.length_map, List.length_map, List.length_take, sizeLine_eq]
        omega
      · rw [upd_same, List.take_add_one, hc, List.map_append, List.map_append, List.map_append]
        rfl
    · rintro H1 ⟨s1, e1⟩
      rw [List.take_length] at e1
      have ln := allFo_len fl hP
      have ef : (P.map fo).flatten = allFo fo P := by unfold allFo; rw [List.flatMap_def]
      refine ⟨_, _, (P.map fo).map tx, rfl, rfl, .inl (SqL.of e1), ?_, ?_⟩
      · rw [sum_txs, ef, show (Str.ofString "").length = 0 by decide +kernel]
        omega
      · rw [join_tx, ef]
        exact q _ s1
def spTorn (C : Addr) : Sp := fun vs H Q _ => ∃ x dx sb D l ys fo P, vs = [.ref x, .str (tx P)] ∧ HallAt C H x dx sb D l ys fo ∧ GoodW l ∧ (∀ s ∈ sds l, (fo s).length ≤ 24) ∧ (∀ c ∈ P, c ∈ sds l) ∧ P.length ≤ 100 ∧ ∀ H', Same H H' → Q (.str (tx (tornL l (allFo fo P)))) H'
set_option maxHeartbeats 1000000 in
theorem ok_torn {f fC fS fA fO : Addr} {fd dC dS dA dO : FuncData} {k : Nat} (B : BM mg) (Z : HC K mg C fi fb di db) (Y : HP K C fw ff dw df) (Cs : DF K mg "check_side" sChkSide ["walls", "side"] fC dC) (S : DF K mg "sides_of" sSides ["walls"] fS dS) (A : DF K mg "all_forced_by" sAllFB ["hall", "part"] fA dA) (O : DF K mg "other" sOther ["side"] fO dO) (F : Fun K "torn_walls" "torn_walls" sTorn f fd) :
    FnOk P w K mg base CX0 (k + 5) f fd ["hall", "part"] (spTorn C) := by
  have GA : FnOk P w K mg base CX0 (k + 4) fA dA ["hall", "part"] (spAllFB C) := ok_allFB B Z Y Cs S A.F
  have GW : FnOk P w K mg base CX0 (k + 1) fw dw ["self"] (spHwalls C) := ok_Hwalls Z Y
  have GO : FnOk P w K mg base CX0 (k + 1) fO dO ["side"] spOther := ok_other O.F
  refine F.ok scTorn (fun vs H Q E h => ?_) (fun cdv A0 outer st H vs Q E hr h => ?_)
  · obtain ⟨x, dx, sb, D, l, ys, fo, P, rfl, _⟩ := h
    rfl
  · obtain ⟨x, dx, sb, D, l, ys, fo, P, rfl, hA, g, fl, hP, hn, q⟩ := h
    have nd := scTorn.nd
    have r1 : Room (k + 1) _ := hr.mono (by omega)
    have hl12 := g.hi
    refine ⟨_, pss_cons (ps_set (i := 2) nd rfl (.inr rfl) (pe_call GA hr rfl A.g A.F.kp A.b .nil pass0 (pa_cons (pv 0) (pa_cons (pv 1) pa_nil))))
      (pss_one (ps_ret (pe_join pe_str (pe_lc (own := [("wall", 3)]) (g := gName 3) (tt := tAnd (tTest (tOp rSgn2 (tVar 3) (tVar 2))) (tTest (tOp rSgn2 (tCall spOther [] E0 (tCons (tVar 3) tNil)) (tVar 2)))) rfl nd (pi_str (pe_meth0 (pv 0) Z.cl Y.mw GW r1 Y.bw .nil pass0)) (blkOk_by (N := ["hall", "part", "sides", "wall"]) (sc := defScope sTorn) (by decide +kernel)) (fun _ _ _ _ _ => pg_name (i := 3) nd rfl (Or.inl rfl))
        (fun _ _ _ _ _ => pts_one (PW.pt (pw_and (pt_cmpR op_in_sign (pv 3) (pv 2) (by rfl)) (pw_and1 (pt_cmpR op_in_sign (pe_call GO r1 rfl O.g O.F.kp O.b .nil pass0 (pa_cons (pv 3) pa_nil)) (pv 2) (by rfl)))))) (fun _ _ _ _ _ => pv 3))))), ?_⟩
    refine ⟨_, rfl, _, rfl, x, dx, sb, D, l, ys, fo, P, rfl, hA, g, fl, hP, hn, fun H0 s0 => ?_⟩
    have hA0 := hA.same s0
    generalize allFo fo P = W at *
    refine ⟨⟨_, rfl⟩, _, rfl, x, dx, _, rfl, hA0.x, rfl, x, dx, sb, D, l, ys, fo, rfl, hA0, tx l, rfl, fun Da na => ?_⟩
    have lz : (tx l).cps.size = l.length := tx_len _
    have wk := walk_str (z := tx l)
    rw [lz] at wk
    refine lc_it wk (fun i H' => Same H0 H' ∧ H' Da = some (.lst (((tornL (l.take i) W).map sg).map V.str))) ⟨same_upd na, upd_same⟩ (fun _ _ _ _ => trivial) ?_ ?_
    · rintro i v H1 H2 hi ⟨s1, e1⟩ ⟨rfl, c, hc, rfl⟩
      have hc : l[i]? = some c := by
        rw [← Array.getElem?_toList, tx_list] at hc
        exact hc
      have ca : c < 128 := g.asc c (List.mem_of_getElem? hc)
      have et : tornL (l.take (i + 1)) W = tornL (l.take i) W ++ [c].filter fun c => decide (c ∈ W) && decide (swp c ∈ W) := by
        unfold tornL
        rw [List.take_add_one, hc, List.filter_append]
        rfl
      have tl : (tornL (l.take i) W).length ≤ 12 := Nat.le_trans (List.length_filter_le _ _) (by rw [List.length_take]; omega)
      have no : (decide (c ∈ W) && decide (swp c ∈ W)) = false → Same H0 H2 ∧ H2 Da = some (.lst (((tornL (l.take (i + 1)) W).map sg).map V.str)) := fun z => by
        refine ⟨s1, ?_⟩
        rw [e1, et, List.filter_cons, if_neg (by rw [z]; simp)]
        simp
      refine ⟨rfl, _, rfl, _, rfl, c, tx W, rfl, rfl, _, rfl, ?_⟩
      rw [tx_list]
      refine ite2 (fun t1 => ?_) (fun t1 => no (by rw [Bool.eq_false_iff.mpr t1]; rfl))
      refine ⟨_, rfl, c, rfl, ca, _, rfl, swp c, tx W, rfl, rfl, _, rfl, ?_⟩
      rw [tx_list]
      refine ite2 (fun t2 => ?_) (fun t2 => no (by rw [Bool.eq_false_iff.mpr t2]; simp))
      refine ⟨_, rfl, _, e1, by rw [List.length_map, List.length_map, sizeLine_eq]; omega, sm_over s1 na, ?_⟩
      rw [upd_same, et, List.filter_cons, if_pos (by rw [t1, t2]; rfl)]
      simp
      rfl
    · rintro H1 ⟨s1, e1⟩
      rw [List.take_length] at e1
      have tl : (tornL l W).length ≤ 12 := Nat.le_trans (List.length_filter_le _ _) hl12
      refine ⟨_, _, (tornL l W).map sg, rfl, rfl, .inl (SqL.of e1), ?_, ?_⟩
      · rw [sum_sgs, show (Str.ofString "").length = 0 by decide +kernel]
        omega
      · rw [join_sg]
        exact q _ (sm_trans s0 s1)
end
end NC
namespace NC
open PySem PySem.Spec PyProof.Rows L2
abbrev sShut : Stmt := topS 39
theorem scShut : FnScope ["hall", "part", "torn"] ["hall", "part"] (defScope sShut) := ⟨rfl, rfl, rfl, by decide +kernel, rfl, by decide +kernel, by decide +kernel⟩
section
variable {P : Program} {w : World} {K : PySem.W.Frag} {mg : Str → Option Value} {base : Heap} {C fi fb fm fr fg fw ff : Addr} {di db dm dr dg dw df : FuncData}
def spByWT : Sp := fun vs H Q _ => ∃ l W, vs = [.str (tx l), .str (tx W)] ∧ GoodW l ∧ ∀ H', Same H H' → Q (.str (tx (byWT l W))) H'
set_option maxHeartbeats 1000000 in
theorem ok_byWT {f fO : Addr} {fd fdO : FuncData} {k : Nat} (F : Fun K "by_walls" "by_walls" sByWalls f fd) (O : DF K mg "other" sOther ["side"] fO fdO) : FnOk P w K mg base CX0 (k + 2) f fd ["walls", "sides"] spByWT := by
  have GO : FnOk P w K mg base CX0 (k + 1) fO fdO ["side"] spOther := ok_other O.F
  refine F.ok scByWalls (fun vs H Q E h => ?_) (fun cdv A outer s H vs Q E hr h => ?_)
  · obtain ⟨l, W, rfl, _⟩ := h
    rfl
  · obtain ⟨l, W, rfl, g, q⟩ := h
    refine ⟨_, pss_one (ps_ret (pe_join pe_str (pe_lc2 (wi1 := iTup K (tTup (tCons (tCall spOther [] E0 (tCons (tVar 2) tNil)) (tCons (tVar 2) tNil)))) (own := [("wall", 2), ("side", 3)]) (vs1 := [3]) (g := gName 2) (g1 := gName 3) (tt := tYes) rfl scByWalls.nd (pi_str (pv 0))
      (blkOk_by (N := ["walls", "sides", "wall", "side"]) (sc := defScope sByWalls) (by decide +kernel)) (by decide)
      (fun _ _ _ _ _ => pg_name (i := 2) scByWalls.nd rfl (Or.inl rfl)) (fun _ _ _ _ _ => pts_nil)
      (fun _ _ _ _ _ => pi_tup (pe_tup (pa_cons (pe_call GO hr rfl O.g O.F.kp O.b .nil pass0 (pa_cons (pv 2) pa_nil)) (pa_cons (pv 2) pa_nil))))
      (fun _ _ _ _ _ => pg_name (i := 3) scByWalls.nd rfl (Or.inl rfl))
      (fun _ _ _ _ _ => pts_one (pt_cmpR op_in_sign (pv 3) (pv 1) (by rfl))) (fun _ _ _ _ _ => pv 3)))), ?_⟩
    refine ⟨⟨_, rfl⟩, _, rfl, tx l, rfl, fun D hD => ?_⟩
    refine out_it walk_str (fun i H' => Same H H' ∧ H' D = some (.lst (((byWT (l.take i) W).map sg).map V.str))) ⟨same_upd hD, upd_same⟩ (fun _ _ _ _ => trivial) ?_ ?_
    · rintro i x H1 H2 hi ⟨sm, eD⟩ ⟨rfl, c, hc, rfl⟩
      have hcl : l[i]? = some c := by
        rw [← Array.getElem?_toList, tx_list] at hc
        exact hc
      have hca : c < 128 := g.asc c (List.mem_of_getElem? hcl)
      refine ⟨rfl, yes_i ⟨_, rfl, c, rfl, hca, _, rfl, by show 2 ≤ sizeLine; decide, fun T hT => ⟨T, rfl, ⟨_, SqT.of upd_same⟩, ?_⟩⟩⟩
      have nDT : D ≠ T := ne_of_none eD hT
      refine in_it (walk_tup (K := K) (a := T) (xs := [swp c, c].map fun e => V.str (sg e))) (fun j H' => Same H H' ∧ SqT K H' T ([swp c, c].map fun e => V.str (sg e)) ∧ H' D = some (.lst (((byWT (l.take i) W ++ ([swp c, c].take j).filter fun e => decide (e ∈ W)).map sg).map V.str)))
        ⟨sm_upd sm hT, SqT.of upd_same, by rw [upd_ne nDT, eD]; simp⟩ (fun j H' _ h => h.2.1) ?_ ?_
      · rintro j x H3 H4 hj ⟨sm2, hT2, eD2⟩ ⟨rfl, hx⟩
        rw [List.getElem?_map] at hx
        obtain ⟨e, he, rfl⟩ := Option.map_eq_some_iff.mp hx
        have hlen : (byWT (l.take i) W ++ ([swp c, c].take j).filter fun e => decide (e ∈ W)).length ≤ 2 * 12 + 2 := by
          rw [List.length_append]
          have h1 := byWT_len (l.take i) W
          have h2 : (([swp c, c].take j).filter fun e => decide (e ∈ W)).length ≤ 2 := Nat.le_trans (List.length_filter_le _ _) (by rw [List.length_take]; exact Nat.min_le_right _ _)
          have h3 : (l.take i).length ≤ 12 := Nat.le_trans (by rw [List.length_take]; exact Nat.min_le_right _ _) g.hi
          omega
        refine ⟨rfl, _, rfl, _, rfl, e, tx W, rfl, rfl, _, rfl, ?_⟩
        rw [tx_list]
        refine ite2 (fun ht => ⟨_, rfl, _, eD2, ?_, sm_over sm2 hD, ?_, ?_⟩) (fun ht => ⟨sm2, hT2, ?_⟩)
        · rw [List.length_map, List.length_map, sizeLine_eq]
          omega
        · rcases hT2 with (z | ⟨o, z⟩) | z
          · exact .inl (.inl (by rw [upd_ne (Ne.symm nDT)]; exact z))
          · exact .inl (.inr ⟨o, by rw [upd_ne (Ne.symm nDT)]; exact z⟩)
          · exact .inr z
        · have e1 : e ∈ W := of_decide_eq_true ht
          rw [upd_same, List.take_add_one, he, List.filter_append]
          simp [e1, sg_tx]
        · have e1 : e ∉ W := fun z => ht (decide_eq_true z)
          rw [eD2, List.take_add_one, he, List.filter_append]
          simp [e1]
      · rintro H3 ⟨sm2, _, eD2⟩
        refine ⟨sm2, ?_⟩
        rw [eD2, byWT_snoc l i c W hcl]
        rfl
    · rintro H3 ⟨sm2, eD2⟩
      have e1 : (l.take (tx l).cps.size) = l := by
        rw [show (tx l).cps.size = l.length from tx_len l]
        exact List.take_length
      rw [e1] at eD2
      refine ⟨_, _, (byWT l W).map sg, rfl, rfl, .inl (SqL.of eD2), ?_, ?_⟩
      · have h1 := byWT_len l W
        have h2 := g.hi
        rw [sum_sgs, show (Str.ofString "").length = 0 by decide +kernel]
        omega
      · rw [join_sg]
        exact q _ sm2
/-- what the functions of parts ask for in the text -/
structure PT (K : PySem.W.Frag) (mg : Str → Option Value) (C fw ff : Addr) (dw df : FuncData) (fIsP fChP fAFB fTo : Addr) (dIsP dChP dAFB dTo : FuncData) : Prop where
  Y : HP K C fw ff dw df
  isP : DF K mg "is_part" sIsPart ["hall", "part"] fIsP dIsP
  chP : DF K mg "check_part" sChkPart ["hall", "part"] fChP dChP
  afb : DF K mg "all_forced_by" sAllFB ["hall", "part"] fAFB dAFB
  to : DF K mg "torn_walls" sTorn ["hall", "part"] fTo dTo
def spShut (C : Addr) : Sp := fun vs H Q _ => ∃ x dx sb D l ys fo bs P z, vs = [.ref x, .str (tx P)] ∧ HallF C H x dx sb D l ys fo bs ∧ Part l P ∧ z ∈ rms l bs ∧ (∀ s ∈ P, s ∈ z) ∧ ∀ H', Same H H' → Q (.str (tx (byWT l (allFo fo P)))) H'
set_option maxHeartbeats 1000000 in
theorem ok_shut {f fC fS fO fBy fIsP fChP fAFB fTo : Addr} {fd dC dS dO dBy dIsP dChP dAFB dTo : FuncData} {k : Nat} (B : BM mg) (Z : HC K mg C fi fb di db) (T : PT K mg C fw ff dw df fIsP fChP fAFB fTo dIsP dChP dAFB dTo) (Cs : DF K mg "check_side" sChkSide ["walls", "side"] fC dC) (S : DF K mg "sides_of" sSides ["walls"] fS dS) (O : DF K mg "other" sOther ["side"] fO dO) (By : DF K mg "by_walls" sByWalls ["walls", "sides"] fBy dBy) (F : Fun K "shut" "shut" sShut f fd) :
    FnOk P w K mg base CX0 (k + 6) f fd ["hall", "part"] (spShut C) := by
  have GA : FnOk P w K mg base CX0 (k + 4) fAFB dAFB ["hall", "part"] (spAllFB C) := ok_allFB B Z T.Y Cs S T.afb.F
  have GW : FnOk P w K mg base CX0 (k + 1) fw dw ["self"] (spHwalls C) := ok_Hwalls Z T.Y
  have GT : FnOk P w K mg base CX0 (k + 5) fTo dTo ["hall", "part"] (spTorn C) := ok_torn B Z T.Y Cs S T.afb O T.to.F
  have GC : FnOk P w K mg base CX0 (k + 3) fChP dChP ["hall", "part"] (spChkPart C) := ok_chkPart Z T.Y T.chP.F T.isP
  have GB : FnOk P w K mg base CX0 (k + 2) fBy dBy ["walls", "sides"] spByWT := ok_byWT By.F O
  refine F.ok scShut (fun vs H Q E h => ?_) (fun cdv A0 outer st H vs Q E hr h => ?_)
  · obtain ⟨x, dx, sb, D, l, ys, fo, bs, P, z, rfl, _⟩ := h
    rfl
  · obtain ⟨x, dx, sb, D, l, ys, fo, bs, P, z, rfl, hF, hP, hz, hin, q⟩ := h
    have nd := scShut.nd
    have g := hF.G.g
    have hl12 := g.hi
    have pl := hP.len
    have r1 : Room (k + 1) _ := hr.mono (by omega)
    have r2 : Room (k + 2) _ := hr.mono (by omega)
    have r3 : Room (k + 3) _ := hr.mono (by omega)
    have r4 : Room (k + 4) _ := hr.mono (by omega)
    refine ⟨_, pss_cons (ps_expr (pe_call GC r3 rfl T.chP.g T.chP.F.kp T.chP.b .nil pass0 (pa_cons (pv 0) (pa_cons (pv 1) pa_nil))))
      (pss_cons (ps_set (i := 2) nd rfl (.inl rfl) (pe_call GT hr rfl T.to.g T.to.F.kp T.to.b .nil pass0 (pa_cons (pv 0) (pa_cons (pv 1) pa_nil))))
      (pss_cons (ps_if (pt_cmpR op_ne (pv 2) pe_str (nomark _)) (pss_one ps_dead) pss_nil)
      (pss_one (ps_ret (pe_call GB r2 rfl By.g By.F.kp By.b .nil pass0 (pa_cons (pe_meth0 (pv 0) Z.cl T.Y.mw GW r1 T.Y.bw .nil pass0) (pa_cons (pe_call GA r4 rfl T.afb.g T.afb.F.kp T.afb.b .nil pass0 (pa_cons (pv 0) (pa_cons (pv 1) pa_nil))) pa_nil))))))), ?_⟩
    refine ⟨_, rfl, _, rfl, x, dx, sb, D, l, ys, fo, P, rfl, hF.G.hA, g, hP, fun H1 s1 => ?_⟩
    have hF1 := hF.same s1
    refine ⟨_, rfl, _, rfl, x, dx, sb, D, l, ys, fo, P, rfl, hF1.G.hA, g, hF.fl, hP.sd, by omega, fun H2 s2 => ?_⟩
    have hF2 := hF1.same s2
    rw [torn_no g hF.G.bar hF.hf hP.sd hz hin]
    refine ⟨_, rfl, rfl, _, rfl, ?_⟩
    rw [str00, show (!decide (V.str (tx []) = V.str (tx []))) = false by simp]
    refine iteF ⟨_, rfl, x, dx, _, rfl, hF2.G.hA.x, rfl, x, dx, sb, D, l, ys, fo, rfl, hF2.G.hA, _, rfl, _, rfl, x, dx, sb, D, l, ys, fo, P, rfl, hF2.G.hA, g, hF.fl, hP.sd, by omega, fun H3 s3 => ?_⟩
    exact ⟨l, _, rfl, g, fun H4 s4 => q H4 (sm_trans (sm_trans s1 s2) (sm_trans s3 s4))⟩
end
end NC
namespace NC
open PySem PySem.Spec PyProof.Rows L2
theorem Dr.ne {H : Hp} {d p : Addr} (D : Dr H d) (n : H p = none) : p ≠ d := by
  obtain ⟨c0, r0, hd⟩ := D.head
  exact Ne.symm (ne_of_none hd n)
theorem lwc_small {c : Nat} (h : 97 ≤ c ∧ c ≤ 122) : lwc c = c := by unfold lwc; rw [if_neg (by omega)]
def tLow (te : TE) : TE := tM0 (fun x xs H Q => ∃ a, x = .str a ∧ xs = [] ∧ a.length ≤ 5592405 ∧ Q (.str (Txt.lower a)) H) te
theorem low_sg {c : Nat} (h : c < 128) : Txt.lower (⟨#[c]⟩ : Str) = ⟨#[lwc c]⟩ := lower_tx (l := [c]) (fun e he => by rw [List.mem_singleton.mp he]; exact h)
end NC
namespace NC
open PySem PySem.Spec PyProof.Rows L2
/-- the ends of a suite whose clause names slot i -/
def endsAs (i : Nat) (D : Ends) : Ends := { nx := fun σ => D.nx (σ.set i none), rt := D.rt, bk := fun σ => D.bk (σ.set i none), ct := fun σ => D.ct (σ.set i none) }
/-- the exception at a, caught in X's own frame, with the state t -/
structure Gnd (X : Cx) (pins : List (Addr × Obj)) (a : Addr) (cls : Value) (d : Option Addr) (σ : L2.St) (H : Hp) (B : Heap) (t0 t : Shared) : Prop where
  own : X.stack = X.env :: X.outer
  frm : X.env.frame = some X.env.locals
  was : Inv X pins σ H t0
  low : ∀ b o, t0.heap.get? b = some o → b ∉ frs X.stack → B.get? b = some o
  up : t0.heap.UpToSlots t.heap
  new : H a = none
  io : t.os = t0.os
  gen : AllBare t.gens
  fly : HandSPX.FlyingZ B (X.env :: X.outer) a (Zc cls d) t.heap
section
variable {X : Cx} {pins : List (Addr × Obj)} {a : Addr} {cls : Value} {d : Option Addr} {σ : L2.St} {H : Hp} {B : Heap} {t0 t : Shared} {D : Ends}
theorem Gnd.to (G : Gnd X pins a cls d σ H B t0 t) {h : Heap} (f : HandSPX.FlyingZ B (X.env :: X.outer) a (Zc cls d) h) (u : t.heap.UpToSlots h) : Gnd X pins a cls d σ H B t0 { t with heap := h } := { G with up := G.up.trans u, fly := f }
theorem Gnd.now (G : Gnd X pins a cls d σ H B t0 t) : Inv X pins σ H t := G.was.landed G.low G.fly.1 G.up G.io G.gen
/-- the exception is no frame -/
theorem Gnd.off (G : Gnd X pins a cls d σ H B t0 t) : a ∉ frs (X.env :: X.outer) := fun z => by
  obtain ⟨o, vs, g1, _, g2⟩ := G.fly.there
  obtain ⟨_, o2, g3, g4⟩ := G.fly.2.2.1.mem z
  exact g4 _ ((Option.some.inj (g3.symm.trans g1)) ▸ g2)
/-- the state in the clause's suite -/
theorem Gnd.inS (G : Gnd X pins a cls d σ H B t0 t) : ∃ oe, Zc cls d oe ∧ (∃ vs, oe.data = .fields vs) ∧ t.heap.get? a = some oe ∧ Inv (X.suite a ((a, oe) :: (X.pn ++ pins))) [] σ H t := by
  obtain ⟨o, vs, g1, g2, g3⟩ := G.fly.there
  refine ⟨o, g2, ⟨vs, g3⟩, g1, G.now.suite g1 g3 G.new (fun z => G.off ?_) fun z => G.off ?_⟩
  · exact List.mem_filterMap.mpr ⟨_, .head _, G.frm.trans (congrArg some z.symm)⟩
  · exact let ⟨e, m, q⟩ := List.mem_filterMap.mp z; List.mem_filterMap.mpr ⟨e, .tail _ m, q⟩
/-- no clause is left: it flies on -/
theorem gnd_out {Wout : WX} (tk : Takes X Wout) (G : Gnd X pins a cls d σ H B t0 t) (w : Wout cls d σ H) : wpAny (model X.prog X.w) X.A (handleBy (.ref a) X.env []) (SP X pins D) X.xe t := by
  have away : wpAny (model X.prog X.w) X.A (setFlight (.ref a) (some X.env.locals)) (fun _ v => wpAny (model X.prog X.w) X.A (throw (.ref a) : Sem Flow) (SP X pins D) X.xe v) X.xe t :=
    HandSPX.setFlight_upZ G.fly fun g held u => wpAny_throw (tk _ _ ⟨a, B, t0, pins, σ, H, cls, d, rfl, G.was, G.low, G.up.trans u, .inr (.inr (G.own ▸ held)), G.new, G.io, G.gen, w⟩)
  rw [← G.frm] at away
  obtain ⟨_, _, _, o, vs, tb, _, _, g1, _, g2, g3, _⟩ := G.fly
  refine wpAny_handleBy_nil ?_
  unfold PySem.passOn
  refine wpAny_bind (wpAny_field g1 g2 g3 ?_)
  have nn : ¬ (Value.ref tb == Value.none) = true := by simp
  rw [if_neg nn]
  first | exact wpAny_bind (wpAny_pure (wpAny_bind away)) | exact wpAny_bind away
end
end NC
namespace NC
open PySem PySem.Spec PyProof.Rows L2
theorem un_join {fs gs : List Addr} {H0 H1 H2 : Hp} {h0 h1 h2 : Heap} (a : Un fs [] H0 H1 h0 h1) (b : Un gs [] H1 H2 h1 h2) (y : ∀ c ∈ gs, c ∈ fs ∨ h0.get? c = none) : Un fs [] H0 H2 h0 h2 where
  keep := fun c o g n nf nx => b.keep c o (a.keep c o g n nf nx) (a.free c o g n nx) (fun m => (y c m).elim nf fun z => by rw [g] at z; cases z) nx
  slot := fun c o g n mf nx => by
    obtain ⟨_, g1⟩ := a.slot c o g n mf nx
    obtain ⟨sl, g2⟩ := b.any g1 (a.free c o g n nx) nx
    exact ⟨sl, g2⟩
  free := fun c o g n nx => let ⟨o1, g1⟩ := a.there c o g nx; b.free c o1 g1 (a.free c o g n nx) nx
  there := fun c o g nx => let ⟨o1, g1⟩ := a.there c o g nx; b.there c o1 g1 nx
  tups := fun c xs g => b.tups c xs (a.tups c xs g)
  frzs := fun c o u g => b.frzs c o u (a.frzs c o u g)
  tbls := fun c ps g => by
    obtain ⟨m, g1⟩ := a.tbls c ps g
    obtain ⟨m', g2⟩ := b.tbls c _ g1
    exact ⟨m ++ m', g2.trans (by rw [Array.append_assoc])⟩
/-- f, called with nothing, does tl as long as J; fs H0 h0: the frames and the heaps that this was said of -/
structure Acts (P : Program) (w : World) (K : PySem.W.Frag) (mg : Str → Option Value) (B : Heap) (k : Nat) (f : Addr) (J : Hp → Prop) (fs : List Addr) (H0 : Hp) (h0 : Heap) (tl : XK → Hp → VK → Prop) : Prop where
  obj : ∀ (G : Hp) (s : Shared), Un fs [] H0 G h0 s.heap → HOk P w G s.heap → J G → PySem.W.FnAt f s.heap
  run : ∀ (A : Around) (out : List Env) (s : Shared) (G : Hp) (Q : VK) (E : XK), Room (k + 1) A → Env0 P w K mg B A out s G → Un fs [] H0 G h0 s.heap → J G → tl E G Q →
    codeAny (model P w) A (.call (.ref f) ⟨[], []⟩) (CR (L2.CX P w) out P w G s Q E) s
section
variable {P : Program} {w : World} {K : PySem.W.Frag} {mg : Str → Option Value} {B : Heap} {k j : Nat} {f g : Addr} {J : Hp → Prop} {fs gs : List Addr} {H0 H1 : Hp} {h0 h1 : Heap} {tl : XK → Hp → VK → Prop}
theorem Acts.move (a : Acts P w K mg B k f J fs H0 h0 tl) (u : Un fs [] H0 H1 h0 h1) (y : ∀ c ∈ gs, c ∈ fs ∨ h0.get? c = none) : Acts P w K mg B k f J gs H1 h1 tl :=
  ⟨fun G s v => a.obj G s (un_join u v y), fun A out s G Q E r e v => a.run A out s G Q E r e (un_join u v y)⟩
theorem Acts.mono {i : Nat} (a : Acts P w K mg B k f J fs H0 h0 tl) (l : k ≤ i) : Acts P w K mg B i f J fs H0 h0 tl := ⟨a.obj, fun A out s G Q E r => a.run A out s G Q E (r.mono (by omega))⟩
/-- from a def's beginning to where it stands -/
theorem Acts.here {Z : Cx} {pins : List (Addr × Obj)} {σ : L2.St} {H : Hp} {s : Shared} (I : Inv Z pins σ H s) (ex : Z.ex = []) (a : Acts Z.prog Z.w Z.K Z.mg Z.base k f J Z.fs Z.H_0 Z.s_0.heap tl) : Acts Z.prog Z.w Z.K Z.mg Z.base k f J (frs Z.stack) H s.heap tl :=
  a.move (ex ▸ I.base) fun c m => (List.mem_cons.mp (I.stkSub c m)).elim (fun e => .inr (by rw [e]; exact Heap.get?_none_of_le I.ok.above)) .inl
/-- the def at g, handed an f that does tl, does what sp says -/
def Uses (P : Program) (w : World) (K : PySem.W.Frag) (mg : Str → Option Value) (B : Heap) (k j : Nat) (g : Addr) (fd : FuncData) (ps : List Str) (sp : Addr → (XK → Hp → VK → Prop) → List V → Hp → VK → Prop) : Prop :=
  ∀ (A : Around) (out : List Env) (s : Shared) (H : Hp) (args : Args) (us : List Value) (vs : List V) (Q : VK) (f : Addr) (J : Hp → Prop) (tl : XK → Hp → VK → Prop), Room j A → Env0 P w K mg B A out s H → BindsTo s fd args (ps.zip us) → Vals vs us → vs.length = ps.length →
    Acts P w K mg B k f J (frs out) H s.heap tl → J H → sp f tl vs H Q → codeAny (model P w) A (.call (.ref g) args) (CR C8.CX0 out P w H s Q C8.E0) s
variable {fd : FuncData} {ps : List Str} {sp : Addr → (XK → Hp → VK → Prop) → List V → Hp → VK → Prop}
theorem uses_of {x qual : Str} {st : Stmt} {N : List Str} (F : Fun K x qual st g fd) (S : FnScope N ps (defScope st))
    (body : ∀ (cdv : Value) (A : Around) (out : List Env) (s : Shared) (H : Hp) (vs : List V) (Q : VK) (f : Addr) (J : Hp → Prop) (tl : XK → Hp → VK → Prop), Room j (A.deeper (envOfC qual (defScope st) s.heap.objs.size g cdv)) → Acts P w K mg B k f J (frs out) H s.heap tl → J H → sp f tl vs H Q →
      ∃ t, PSs (cxOf C8.CX0 P w K mg B N qual (defScope st) g cdv A out s H C8.E0).nox (defBody st) t ∧ t { nx := fun _ G => Q .non G, rt := Q } (L2.start N vs) H) : Uses P w K mg B k (j + 1) g fd ps sp := by
  obtain ⟨oc, od, kV, doc, pm, an, cd, ct, osl, rfl, lk, cc⟩ := F.ex
  intro A out s H args us vs Q f J tl r e0 b v l a jH h
  refine LamX.run_ofS (N := N) (us := us) lk cc S r e0 b v l fun r2 => ?_
  obtain ⟨t, d, q⟩ := body cd A out s H vs Q f J tl r2 a jH h
  exact ⟨t, d.nox, q⟩
end
section
variable {Z : Cx} {k j i : Nat} {f g : Addr} {J : Hp → Prop} {tl : XK → Hp → VK → Prop} {fd : FuncData} {ps : List Str} {sp : Addr → (XK → Hp → VK → Prop) → List V → Hp → VK → Prop} {x y : Str} {p p2 pos : Pos} {e : Expr} {es : List Expr} {t : TA} {E : XK}
theorem end_of {CX : CXT} {pins : List (Addr × Obj)} {σ : L2.St} {H : Hp} {s s' : Shared} {Q : VK} {r : Result} (I : Inv Z pins σ H s) (px : Passes CX Z E) (h : CR CX Z.stack Z.prog Z.w H s Q E r s') : wants (EP Z pins σ Q) Z.xe r s' := by
  match r, h with
  | .ok (.ret _), h => exact I.after h
  | .error _, h => exact px _ _ _ _ _ _ I h
/-- y(), y holding such an f -/
theorem pe_thunk (a : Acts Z.prog Z.w Z.K Z.mg Z.base k f J Z.fs Z.H_0 Z.s_0.heap tl) (ex : Z.ex = []) (px : Passes (L2.CX Z.prog Z.w) Z E) (r : Room (k + 1) Z.A) (at_ : PE Z (.Name y p) (tVar i)) :
    PE Z (.Call (.Name y p) [] [] p2) (fun σ H Q => σ[i]? = some (some (.ref f)) ∧ J H ∧ tl E H Q) := ⟨fun pins s σ H Q I ⟨sv, jH, h⟩ => by
  refine wpAny_Call_Name_kw (thn (at_.run pins s σ H (fun v G => v = .ref f ∧ J G ∧ tl E G Q) I ⟨_, sv, rfl, jH, h⟩) ?_)
  rintro u s1 ⟨v, G, I1, rv, rfl, jG, hG⟩
  obtain rfl : u = Value.ref f := rv
  have un : Un Z.fs [] Z.H_0 G Z.s_0.heap s1.heap := ex ▸ I1.base
  exact PySem.W.callWith_F0 (a.obj G s1 un I1.hok jG) (wpAny_call (codeAny_mono (a.run _ _ _ _ Q E r I1.env0 un jG hG) fun _ _ q => end_of I1 px q))⟩
/-- x(e, ..), x a def that is handed such an f -/
theorem pe_uses (U : Uses Z.prog Z.w Z.K Z.mg Z.base k j g fd ps sp) (r : Room j Z.A) (gl : Gl Z x) (hm : Z.mg x = some (.ref g)) (kp : PySem.W.keepIn Z.K (.ref g) = true) (b : Binds Z.K fd ps []) (ha : PA Z (e :: es) t)
    (a : Acts Z.prog Z.w Z.K Z.mg Z.base k f J Z.fs Z.H_0 Z.s_0.heap tl) (ex : Z.ex = []) (db : (x == ("__debug__" : Str)) = false := by decide) (h1 : starEach (e :: es) Z.env = (false, eval e Z.env) :: starEach es Z.env := by rfl) (h2 : (backTo pos (starEach es Z.env)).any (·.1) = false := by rfl) :
    PE Z (.Call (.Name x p) (e :: es) [] pos) (fun σ H Q => t σ H fun vs G => vs.length = ps.length ∧ J G ∧ sp f tl vs G Q) := ⟨fun pins s σ H Q I h => by
  refine wpAny_Call_Name_kw (ld_glob I gl hm (PySem.W.callWith_K (h₀ := Z.base) I.mod.kin kp (thn (ha.run pos pins s σ H _ I h) ?_) h1 h2) db)
  rintro us s1 ⟨vs, G, I1, v, l, jG, hG⟩
  have l2 : us.length = ps.length := v.length ▸ l
  have bt : BindsTo s1 fd ⟨us, []⟩ (ps.zip us) := by
    have z := b s1 us I1.kIn (by rw [List.append_nil]; exact l2)
    rw [List.append_nil] at z
    exact z
  exact ⟨I1.kIn, wpAny_call (codeAny_mono (U _ _ _ _ _ us vs Q f J tl r I1.env0 bt v l (a.here I1 ex) jG hG) fun _ _ q => end_of (CX := C8.CX0) (E := C8.E0) I1 (fun _ _ _ _ _ _ _ z => z.elim) q)⟩⟩
end
end NC
namespace NC
open PySem PySem.Spec PyProof.Rows L2
theorem frames_kept {h h' B : Heap} (k : ∀ b o, h.get? b = some o → h'.get? b = some o) : ∀ {l : List Env}, h.FunFrames B l → h'.FunFrames B l
  | [], _ => trivial
  | _ :: _, ⟨a, ⟨L, o, b, c, d, e⟩, r⟩ => ⟨a, ⟨L, o, b, c, k _ _ d, e⟩, frames_kept k r⟩
theorem fly_kept {h h' B : Heap} {l : List Env} {a : Addr} {Z : Obj → Prop} (k : ∀ b o, h.get? b = some o → h'.get? b = some o) (x : HandSPX.FlyingZ B l a Z h) : HandSPX.FlyingZ B l a Z h' := by
  obtain ⟨s, n, fr, oe, vs, T, oT, ts, e1, e2, e3, e4, e5, e6, e7, e8, e9⟩ := x
  exact ⟨fun b o e => k b o (s b o e), n, frames_kept k fr, oe, vs, T, oT, ts, k _ _ e1, e2, e3, e4, e5, e6, k _ _ e7, e8, e9⟩
section
variable {X : Cx} {pins : List (Addr × Obj)} {a : Addr} {cls : Value} {d : Option Addr} {σ : L2.St} {H : Hp} {B : Heap} {t0 t : Shared} {D : Ends}
def wTup (K : PySem.W.Frag) (Wout : WX) (D : Ends) (cs : List Value) (i : Nat) (ts : Addr → Value → Option Addr → TS) : WX := fun cls d σ H => ∃ b, PySem.W.exmAny K cls cs = some b ∧
  (b = true → ∀ a, H a = none → ts a cls d (endsAs i D) (σ.set i (some (.ref a))) H) ∧ (b = false → Wout cls d σ H)
theorem gnd_tup {Wout : WX} {n x1 x2 x3 : Str} {c1 c2 c3 : Value} {i kk : Nat} {ts : Addr → Value → Option Addr → TS} {b₀ : Stmt} {suite : List Stmt} {p1 p2 p3 pt q : Pos} (hN : X.N.Nodup) (slot : X.N[i]? = some n) (kind : X.env.kindOf n = some .local)
    (n1 : Names X x1 c1) (n2 : Names X x2 c2) (n3 : Names X x3 c3) (run : ∀ (a : Addr) (oe : Obj) (cls : Value) (d : Option Addr) (pn : List (Addr × Obj)), Zc cls d oe → (∃ vs, oe.data = .fields vs) → PSs (X.suite a ((a, oe) :: pn)) (b₀ :: suite) (ts a cls d))
    (tk : Takes X Wout) (G : Gnd X pins a cls d σ H B t0 t) (w : wTup X.K Wout D [c1, c2, c3] i ts cls d σ H) :
    wpAny (model X.prog X.w) X.A (handleBy (.ref a) X.env [.ExceptHandler (some (.Tuple [.Name x1 p1, .Name x2 p2, .Name x3 p3] kk pt)) (some n) (b₀ :: suite) q]) (SP X pins D) X.xe t := by
  obtain ⟨b, m, yes, no⟩ := w
  obtain ⟨oe, z1, z2, z3, I⟩ := G.inS
  have nm : ∀ {x : Str} {c : Value} {p : Pos} {Q E : Value → Shared → Prop}, Names X x c → Q c t → wpAny (model X.prog X.w) (X.A.mark (some (.ref a))) (eval (.Name x p) X.env) Q E t := fun {x c p Q E} ok r => ok.2.2.elim
    (fun g => ld_glob (X := X.suite a ((a, oe) :: (X.pn ++ pins))) I ok.1 g r ok.2.1) (fun g => ld_blt (X := X.suite a ((a, oe) :: (X.pn ++ pins))) I ok.1 g.1 g.2.1 r g.2.2 ok.2.1)
  have kp : ∀ b o, t.heap.get? b = some o → (t.heap.push { cls := .type "tuple", data := .seq [c1, c2, c3].toArray }).get? b = some o := fun _ _ z => Heap.get?_push_of_some _ z
  have G1 := G.to (fly_kept kp G.fly) (.of_keeps kp)
  have lk : PySem.W.Looks (model X.prog X.w) (t.heap.push { cls := .type "tuple", data := .seq [c1, c2, c3].toArray }) (typeOf (.ref a)) cls := fun _ _ _ _ k r => wpAny_typeOf_ref (k _ _ (kp _ _ z3)) (z1.1.symm ▸ r)
  refine wpAny_handleBy_cons (codeAny_handlers_test (wpAny_Tuple (wpAny_items_cons (nm n1 (wpAny_items_cons (nm n2 (wpAny_items_cons (nm n3 (wpAny_items_nil ⟨by size_fits, ?_⟩)))))))) ) nofun
  refine (PySem.W.exm_tup3 (M := model X.prog X.w) (G.now.kIn.keeps kp) lk (Heap.get?_push_size t.heap rfl) m).here ?_
  cases b with
  | false => exact gnd_out tk G1 (no rfl)
  | true =>
    refine codeAny_handlers_suite_as (HandSPX.lands_againZ G1.fly fun g f u => ?_)
    obtain ⟨o2, y1, y2, _, I2⟩ := (G1.to f u).inS
    refine store_ok (X := X.suite a ((a, o2) :: (X.pn ++ pins))) (v := .ref a) I2 hN slot (.inl kind) rfl (fun v I3 => ?_) (.inr kind)
    have gone : ∀ {τ : L2.St} {G' : Hp} {v' : Shared} {R : Shared → Prop}, Inv (X.suite a ((a, o2) :: (X.pn ++ pins))) [] τ G' v' → (∀ v2, Inv X pins (τ.set i none) G' v2 → R v2) → wpAny (model X.prog X.w) X.A (do bindName X.env n .none; unbindBehindTheSuite X.env n q) (fun _ v2 => R v2) X.xe v' :=
      fun k r => gone_ok (k.unsuite G.was.ok) hN slot kind r
    refine wpAny_mono ((run a o2 cls d (X.pn ++ pins) y1 y2).run [] v _ H _ I3 (yes rfl a G.new)) (fun fl v' r => ?_) fun _ _ e => e.elim
    match fl, r with
    | .next, ⟨τ, G', k, r⟩ => exact gone k fun v2 k2 => ⟨_, G', k2, r⟩
    | .brk, ⟨τ, G', k, r⟩ => exact gone k fun v2 k2 => ⟨_, G', k2, r⟩
    | .cont, ⟨τ, G', k, r⟩ => exact gone k fun v2 k2 => ⟨_, G', k2, r⟩
    | .ret _, ⟨y, τ, G', k, rl, r⟩ => exact gone k fun v2 k2 => ⟨y, _, G', k2, rl, r⟩
theorem ps_try_tup {body : List Stmt} {pos : Pos} {tb : WX → TS} {Wout : WX} {n x1 x2 x3 : Str} {c1 c2 c3 : Value} {i kk : Nat} {ts : Addr → Value → Option Addr → TS} {b₀ : Stmt} {suite : List Stmt} {p1 p2 p3 pt q : Pos} (own : X.stack = X.env :: X.outer) (frm : X.env.frame = some X.env.locals) (hN : X.N.Nodup) (tk : Takes X Wout)
    (bd : ∀ (W : WX) (pn : List (Addr × Obj)) (xe : Value → Shared → Prop), Takes (X.tr pn xe) W → PSs (X.tr pn xe) body (tb W)) (slot : X.N[i]? = some n) (kind : X.env.kindOf n = some .local)
    (n1 : Names X x1 c1) (n2 : Names X x2 c2) (n3 : Names X x3 c3) (run : ∀ (a : Addr) (oe : Obj) (cls : Value) (d : Option Addr) (pn : List (Addr × Obj)), Zc cls d oe → (∃ vs, oe.data = .fields vs) → PSs (X.suite a ((a, oe) :: pn)) (b₀ :: suite) (ts a cls d)) :
    PS X (.Try body [.ExceptHandler (some (.Tuple [.Name x1 p1, .Name x2 p2, .Name x3 p3] kk pt)) (some n) (b₀ :: suite) q] [] [] pos) (fun D σ H => tb (wTup X.K Wout D [c1, c2, c3] i ts) D σ H) := by
  refine ⟨fun ps s σ0 H0 D I h => wpAny_Try_except (wpAny_mono ((bd _ (X.pn ++ ps) _ ?_).run [] s σ0 H0 D (I.toTry _) h) (fun fl v r => ?_) fun _ _ e => e)⟩
  · rintro u v ⟨a, B, t0, _, σ, H, cls, d, rfl, J, low, up, sky, new, io, gen, w⟩
    have fr : X.A.frames = some (X.env :: X.outer) := I.ok.frames.trans (congrArg some own)
    refine Sky.land (Z := Zc cls d) Zc.steady fr frm (B := B) (own ▸ sky) fun g f u => ?_
    exact gnd_tup hN slot kind n1 n2 n3 run tk (show Gnd X ps a cls d σ H B t0 { v with heap := g } from ⟨own, frm, J.ofTry I.ok, low, up.trans u, new, io, gen, f⟩) w
  · match fl, r with
    | .next, ⟨τ, G', k, r⟩ => exact wpAny_execs_nil ⟨τ, G', k.ofTry I.ok, r⟩
    | .brk, ⟨τ, G', k, r⟩ => exact ⟨τ, G', k.ofTry I.ok, r⟩
    | .cont, ⟨τ, G', k, r⟩ => exact ⟨τ, G', k.ofTry I.ok, r⟩
    | .ret _, ⟨y, τ, G', k, rl, r⟩ => exact ⟨y, τ, G', k.ofTry I.ok, rl, r⟩
end
end NC
namespace NC
open PySem PySem.Spec PyProof.Rows L2
section
variable {X : Cx}
/-- the two objects that the making of a refusal lays: its arguments' tuple, itself -/
abbrev twoO (h : Heap) (C : Addr) : Heap := (h.push (PySem.W.kdv_tup [])).push (PySem.HandSPX.excO C h.objs.size)
theorem pmk_oex0 {x : Str} {C fI : Addr} {k : Nat} {fd : FuncData} {sp : Sp} {p pos : Pos} (O : OexC X.K C) (ini : PySem.W.findIn X.K (.ref C) "__init__" = some (some (.ref fI))) (fn : PySem.W.typeIn X.K (.ref fI) = some (.type "function"))
    (G : FnOk X.prog X.w X.K X.mg X.base C8.CX0 k fI fd ["self"] sp) (room : Room (k + 1) X.A) (b : Binds X.K fd ["self"] []) (gl : Gl X x) (mx : X.mg x = some (.ref C)) (db : (x == ("__debug__" : Str)) = false := by decide) :
    PMk X (.Call (.Name x p) [] [] pos) (tMkO C sp [] tNil) := fun pins s σ H Q I h => by
  obtain ⟨nm, q, N, bs, bm, sn, sub, ab, col, dd, k0, k1, k2, k3, k5, hC, hbm⟩ := O.cls
  obtain ⟨hp, gn, dr, tk, os⟩ := s
  have new : hp.objs.size ≤ hp.objs.size + 1 := by omega
  have want := h.2 (hp.objs.size + 1) (I.hok.fresh new)
  have old : ∀ b o, hp.get? b = some o → (twoO hp C).get? b = some o := fun b o z => Heap.get?_push_of_some _ (Heap.get?_push_of_some _ z)
  have there : (twoO hp C).get? (hp.objs.size + 1) = some (PySem.HandSPX.excO C hp.objs.size) := by heap_get
  have J : Inv X pins σ (upd H (hp.objs.size + 1) (exo (hp.objs.size + 1) C none)) ⟨twoO hp C, gn, dr, tk, os⟩ := I.laid (t' := tk) old new (exo_ok there)
  have bt := b ⟨twoO hp C, gn, dr, tk, os⟩ [.ref (hp.objs.size + 1)] J.kIn rfl
  have ran := G.run _ X.stack _ _ ⟨[.ref (hp.objs.size + 1)], []⟩ [.ref (hp.objs.size + 1)] [.ref (hp.objs.size + 1)] _ C8.E0 (room.make C [] []) (J.env0.make C [] []) bt (.cons rfl .nil) want
  refine wpAny_Call_Name_kw (ld_glob I gl mx (PySem.W.callWith_K0 (first := []) I.kIn O.kC (wpAny_call ?_)) db)
  refine PySem.HandSPX.call_own PySem.F.excBase_ValueError (fun Y => PySem.HandSPX.refsVE_contains Y bm hbm) (I.kIn _ _ hC) (PySem.W.looks_findIn I.kIn ini) (fun self => PySem.W.bind_fn I.kIn self fn) (Nat.zero_le _) (codeAny_mono ran fun r v z => ?_)
  match r, z with
  | .ok (.ret u), z =>
    obtain ⟨y, H2, o2, b2, u2, ok2, ry, rfl, d, fs, g1, g2, g3, g4⟩ := z
    obtain ⟨h2, n2, d2, t2, os2⟩ := v
    exact ⟨ry, mk_end (raises_own O.exC O.tyC) I new old u2 ok2 o2 b2 g1 g2 g3 g4⟩
end
end NC
namespace NC
open PySem PySem.Spec PyProof.Rows L2
theorem passF {X : Cx} : Passes (L2.CX X.prog X.w) X E0 := fun _ _ _ _ _ _ _ h => by
  obtain ⟨_, _, _, _, _, _, _, _, _, _, _, _, z⟩ := h
  exact z.elim
/-- what stands beside the draws: the rooms, the hall -/
structure St6 (d c rA : Addr) (R : List V) (C x dx sb D : Addr) (l : List Nat) (ys : List Str) (fo : Nat → List Nat) (H : Hp) : Prop where
  dr : Dr H d
  hc : HeadC H d c
  rA : H rA = some (.lst R)
  hA : HallAt C H x dx sb D l ys fo
section
variable {d c rA C x dx sb D : Addr} {R : List V} {l : List Nat} {ys : List Str} {fo : Nat → List Nat} {H H' : Hp}
theorem St6.same (s : St6 d c rA R C x dx sb D l ys fo H) (e : Same H H') : St6 d c rA R C x dx sb D l ys fo H' := ⟨s.dr.same e, let ⟨r, h⟩ := s.hc; ⟨r, e _ _ h⟩, e _ _ s.rA, s.hA.same e⟩
theorem St6.smd (s : St6 d c rA R C x dx sb D l ys fo H) (nr : rA ≠ d) (ns : sb ≠ d) (e : SmD d H H') (D' : Dr H' d) : St6 d c rA R C x dx sb D l ys fo H' := by
  obtain ⟨r, hd⟩ := s.hc
  have nx : x ≠ d := ne_of s.hA.x hd fun z => by cases z
  have nD : D ≠ d := ne_of s.hA.D hd fun z => by cases z
  exact ⟨D', e.2 _ s.hc, e.1 _ _ nr s.rA, ⟨e.1 _ _ nx s.hA.x, e.1 _ _ ns s.hA.sb, e.1 _ _ nD s.hA.D⟩⟩
theorem St6.new (s : St6 d c rA R C x dx sb D l ys fo H) {p : Addr} (n : H p = none) (s' : St6 d c rA R C x dx sb D l ys fo H') {o : HO} : St6 d c rA R C x dx sb D l ys fo (L2.upd H' p o) := by
  obtain ⟨ns, hcell⟩ := s.dr.cell s.hc
  have n1 : p ≠ d := s.dr.ne n
  have n2 : p ≠ c := Ne.symm (ne_of_none hcell n)
  exact ⟨s'.dr.upd s'.hc n1 n2, s'.hc.upd n1, by rw [upd_ne (ne_of_none s.rA n)]; exact s'.rA, ⟨by rw [upd_ne (ne_of_none s.hA.x n)]; exact s'.hA.x, by rw [upd_ne (ne_of_none s.hA.sb n)]; exact s'.hA.sb, by rw [upd_ne (ne_of_none s.hA.D n)]; exact s'.hA.D⟩⟩
end
end NC
namespace NC
open PySem PySem.Spec PyProof.Rows L2
def FnO (f : Addr) (o : Obj) : HO := .ext fun h => h.get? f = some o
theorem fnO_ne {f : Addr} {o : Obj} (ps : Array Value) : FnO f o ≠ .tbl ps := fun z => by unfold FnO at z; cases z
theorem fnO_ok {P : Program} {w : World} {H : Hp} {h : Heap} {f : Addr} {o : Obj} (e : h.get? f = some o) : ObjOk P w H h f (FnO f o) := ⟨e, ⟨o, e⟩, fun _ _ a st => st _ a⟩
section
variable {X : Cx} {pins : List (Addr × Obj)} {σ : L2.St} {H : Hp} {s : Shared} {T : List (Addr × Str)} {c P : Addr} {params : Arguments} {body : Expr} {scope : Scope} {pos : Pos}
abbrev lamO (X : Cx) (params : Arguments) (body : Expr) (scope : Scope) (pm : Value) (c' : Addr) (ctv : Value) : Obj := PySem.W.kla_obj "<lambda>" (X.env.qual ++ "<lambda>") params body scope (cloFrom X.env.cells scope.names []) pm c' ctv
/-- a lambda is made, and its function object is tracked from now on -/
theorem lam_new {E : Value → Shared → Prop} {Q : Value → Shared → Prop} (I : Inv X pins σ H s) (TB : LamX.TabB X.base X.mg c P) (hc : X.env.code = .ref c) (hT : (P, X.env.qual ++ "<lambda>") ∈ T) (hu : ∀ p ∈ T, p.1 = P → p.2 = X.env.qual ++ "<lambda>") (tb : LamX.Tabs T H) (nd : defaultsOf params X.env = ([], []))
    (fr : ∀ y ∈ scope.names, y.2 = .free → ∃ c, X.env.cells.lookup y.1 = some c)
    (q : ∀ (f c' : Addr) (pm ctv : Value) (G : Hp) (v : Shared), Inv X pins σ (upd G f (FnO f (lamO X params body scope pm c' ctv))) v → G f = none → LamX.ExtN H G → LamX.Tabs T G → G c' = some (LamX.CodeO c' (X.env.qual ++ "<lambda>")) → Q (.ref f) v) :
    wpAny (model X.prog X.w) X.A (eval (.Lambda params body scope pos) X.env) Q E s := by
  obtain ⟨ps, eP, ok, old⟩ := tb _ hT
  have hP := I.hok P _ eP
  refine PySem.W.kla_eval nd ?_
  cases am : codeAmong pos ps.toList with
  | some cv =>
    obtain ⟨c', rfl, ec⟩ := old pos cv am
    refine PySem.W.kla_makeFunctionHit (mg := X.mg) (ps := ps) (closure_ok fr) I.ok.glob (I.mod.glob.keeps I.bk) hc (TB.code.keeps I.bk) hP ok am (TB.bm.keeps I.bk) fun ctv h1 tk k1 sz => ?_
    have n1 : H h1.objs.size = none := I.hok.fresh sz
    exact q _ c' _ ctv H _ (I.laid (t' := tk) (fun b u e => Heap.get?_push_of_some _ (k1 b u e)) sz (fnO_ok (Heap.get?_push_size _ rfl))) n1 (LamX.ExtN.refl H) tb ec
  | none =>
    refine PySem.W.kla_makeFunction (mg := X.mg) (ps := ps) (closure_ok fr) I.ok.glob (I.mod.glob.keeps I.bk) hc (TB.code.keeps I.bk) hP ok am TB.gP (TB.bm.keeps I.bk) fun c' ctv h1 tk k1 ge lt rc tbl => ?_
    obtain ⟨c2, oc, vs, t, e2, hoc, hd, hv⟩ := rc
    cases e2
    have nC : H c' = none := I.hok.fresh ge
    have I1 := LamX.inv_table (t' := tk) (more := #[rawInt pos.line, rawInt pos.col, .ref c']) I eP k1 tbl ge ⟨oc, vs, t, hoc, hd, hv⟩
    generalize hG : upd (upd H P (.tbl (ps ++ #[rawInt pos.line, rawInt pos.col, .ref c']))) c' (LamX.CodeO c' (X.env.qual ++ "<lambda>")) = G at I1
    have gC : G c' = some (LamX.CodeO c' (X.env.qual ++ "<lambda>")) := by rw [← hG, upd_same]
    have gP : G P = some (.tbl (ps ++ #[rawInt pos.line, rawInt pos.col, .ref c'])) := by rw [← hG, upd_ne (ne_of_none eP nC), upd_same]
    have ex : LamX.ExtN H G := fun b o e n => by
      rw [← hG, upd_ne (ne_of_none e nC), upd_ne (fun z => by rw [z, eP] at e; exact n ps (Option.some.inj e).symm)]
      exact e
    have sz : h1.objs.size ≤ h1.objs.size := Nat.le_refl _
    have I2 := I1.laid (a := h1.objs.size) (t' := tk) (o := FnO h1.objs.size (lamO X params body scope ((X.mg "__name__").getD .none) c' ctv)) (h' := h1.push (lamO X params body scope ((X.mg "__name__").getD .none) c' ctv)) (fun b u e => Heap.get?_push_of_some _ e) sz (fnO_ok (Heap.get?_push_size _ rfl))
    have eL : (ps ++ #[rawInt pos.line, rawInt pos.col, .ref c']).toList = ps.toList ++ [rawInt pos.line, rawInt pos.col, .ref c'] := by simp
    refine q _ c' _ ctv G _ I2 (I1.hok.fresh sz) ex (fun p hp => ?_) gC
    by_cases hb : p.1 = P
    · rw [hu p hp hb, hb]
      refine ⟨_, gP, by rw [eL]; exact PySem.TriplesOk_snoc _ _ _ _ ok, fun p' cv ecv => ?_⟩
      rw [eL] at ecv
      exact (LamX.among_app _ ok ecv).elim (fun z => let ⟨c0, e1, e2⟩ := old p' cv z; ⟨c0, e1, ex _ _ e2 LamX.codeO_ne⟩) fun z => ⟨c', z, gC⟩
    · obtain ⟨p1, a1, a2, a3⟩ := tb p hp
      have g1 : G p.1 = some (.tbl p1) := by rw [← hG, upd_ne (ne_of_none a1 nC), upd_ne hb]; exact a1
      exact ⟨p1, g1, a2, fun p' cv ecv => let ⟨c0, e1, e2⟩ := a3 p' cv ecv; ⟨c0, e1, ex _ _ e2 LamX.codeO_ne⟩⟩
/-- what a kept lambda does when it is called: t, read in the maker's slots as they are then -/
def LamOk (X : Cx) (k : Nat) (G : Hp) (f : Addr) (t : XK → TE) : Prop := ∃ (params : Arguments) (body : Expr) (scope : Scope) (pm : Value) (c' : Addr) (ctv : Value), LamX.LamS X.env.scope scope ∧ G f = some (FnO f (lamO X params body scope pm c' ctv)) ∧ G c' = some (LamX.CodeO c' (X.env.qual ++ "<lambda>")) ∧
  bindArgs (PySem.W.kla_fn "<lambda>" (X.env.qual ++ "<lambda>") params body scope (cloFrom X.env.cells scope.names []) pm (.ref c') ctv) ⟨[], []⟩ = pure [] ∧
  ∀ (A : Around) (out : List Env) (s : Shared) (H : Hp) (E : XK), Room k (A.deeper (LamX.lamEnv X scope s.heap.objs.size f c')) → PE (LamX.lamCx X A out s H E scope f c') body (t E)
theorem LamOk.ext {k : Nat} {G G1 : Hp} {f : Addr} {t : XK → TE} (h : LamOk X k G f t) (e : LamX.ExtN G G1) : LamOk X k G1 f t := by
  obtain ⟨params, body, scope, pm, c', ctv, a, b, c, d, r⟩ := h
  exact ⟨params, body, scope, pm, c', ctv, a, e _ _ b fnO_ne, e _ _ c LamX.codeO_ne, d, r⟩
theorem ExtN_laid {G : Hp} {f : Addr} {o : HO} (n : G f = none) : LamX.ExtN G (upd G f o) := fun b u e _ => by rw [upd_ne (ne_of_none e n)]; exact e
def tLamV (X : Cx) (T : List (Addr × Str)) (k : Nat) (t : XK → TE) : TE := fun _ H Q => LamX.Tabs T H ∧ ∀ f G, LamX.ExtN H G → LamX.Tabs T G → LamOk X k G f t → Q (.ref f) G
/-- lambda: body, as a value -/
theorem pe_lam {k : Nat} {t : XK → TE} (TB : LamX.TabB X.base X.mg c P) (hc : X.env.code = .ref c) (hT : (P, X.env.qual ++ "<lambda>") ∈ T) (hu : ∀ p ∈ T, p.1 = P → p.2 = X.env.qual ++ "<lambda>") (L : LamX.LamS X.env.scope scope) (nd : defaultsOf params X.env = ([], []))
    (nb : ∀ (q : Str) (cl : List (Str × Addr)) (pm cv ctv : Value), bindArgs (PySem.W.kla_fn "<lambda>" q params body scope cl pm cv ctv) ⟨[], []⟩ = pure [])
    (pb : ∀ (A : Around) (out : List Env) (s : Shared) (H : Hp) (E : XK) (f c' : Addr), Room k (A.deeper (LamX.lamEnv X scope s.heap.objs.size f c')) → PE (LamX.lamCx X A out s H E scope f c') body (t E)) :
    PE X (.Lambda params body scope pos) (tLamV X T k t) := ⟨fun pins s σ H Q I ⟨tb, h⟩ => by
  refine lam_new I TB hc hT hu tb nd (L.has I.ok) fun f c' pm ctv G v I1 n1 e1 t1 gc => ?_
  have l1 : LamX.ExtN G (upd G f (FnO f (lamO X params body scope pm c' ctv))) := ExtN_laid n1
  have t2 : LamX.Tabs T (upd G f (FnO f (lamO X params body scope pm c' ctv))) := t1.ext fun b o e => by rw [upd_ne (ne_of_none e n1)]; exact e
  exact ⟨.ref f, _, I1, rfl, h f _ (e1.trans l1) t2 ⟨params, body, scope, pm, c', ctv, L, upd_same, l1 _ _ gc LamX.codeO_ne, nb _ _ _ _ _, fun A out s H E r => pb A out s H E f c' r⟩⟩⟩
/-- a kept lambda, called from anywhere as long as the maker's frame is as it is -/
theorem LamOk.acts {k : Nat} {f : Addr} {t : XK → TE} (I : Inv X pins σ H s) (h : LamOk X k H f t) :
    ∃ J : Hp → Prop, J H ∧ Acts X.prog X.w X.K X.mg X.base k f J (frs X.stack) H s.heap (fun E G Q => t E σ G Q) := by
  obtain ⟨params, body, scope, pm, c', ctv, L, gf, gc, nb, pb⟩ := h
  refine ⟨fun G => G f = some (FnO f (lamO X params body scope pm c' ctv)) ∧ G c' = some (LamX.CodeO c' (X.env.qual ++ "<lambda>")), ⟨gf, gc⟩, fun G v u ho jG => ?_, fun A out v G Q E r e0 u jG h => ?_⟩
  · exact ⟨_, _, _, _, (ho f _ jG.1).1⟩
  · obtain ⟨⟨co, fl, tk, c1, c2, c3⟩, _⟩ := e0.hok c' _ jG.2
    have hf : v.heap.get? f = some (lamO X params body scope pm c' ctv) := (e0.hok f _ jG.1).1
    refine PySem.W.kla_callFunE r.depth hf rfl L.co L.gen rfl ⟨c', co, fl, tk, rfl, c1, c2, c3⟩ ?_
    rw [nb]
    have lim : v.heap.NoLimit := e0.mod.nolimit.keeps fun b o z => (e0.bs b o z).1
    refine wpAny_pure (wpAny_newFunctionEnv (fun y m => (L.own y m).2) nofun (fun h1 ns sb => ⟨lim.fresh _ sb, ?_⟩) L.kind)
    have old : ∀ b o, v.heap.get? b = some o → h1.get? b = some o := fun b o z => sb.extBut b o (Nat.ne_of_lt (Heap.lt_size z)) (Heap.get?_push_of_some _ z)
    have V := LamX.lam_start2 (E := E) (f := f) (c' := c') (tk := v.toks + ([] : List (Str × Value)).length) I L e0 r.hd u ns old
    refine PySem.W.kla_codeExpr (wpAny_mono ((pb A out v G E (r.deeper _)).run [] _ σ G Q V h) ?_ fun _ _ z => z)
    rintro u2 v2 ⟨y, G2, V2, ry, qy⟩
    exact ⟨y, G2, V2.os, V2.bare, V2.base, V2.hok, ry, qy⟩
end
end NC
namespace NC
open PySem PySem.Spec PyProof.Rows L2
section
variable {X : Cx} {pins : List (Addr × Obj)} {σ : L2.St} {H : Hp} {s : Shared} {Q : VK} {elt tg iter : Expr} {scope : Scope} {own : List (Str × Nat)} {pos : Pos} {wi : TI} {g : TG} {te : TE}
theorem lc_blk {it D : Addr} {fp : List Addr} {tn : Nat → Heap → Prop} {J : It} {HL : Hp} {sL : Shared} {W : Nat → Nat → Hp → Prop} {m0 : Nat} (calm : X.calm = true) (nd : X.N.Nodup) (nm : BlkOk X.N X.env.scope scope own)
    (to : ∀ (v : Shared) (G : Hp) (C : Addr) (cl : List (Str × Addr)) (fp : List Addr), PG (X.blk v G scope (compEnvC scope cl C X.env) fp) tg g)
    (el : ∀ (v : Shared) (G : Hp) (C : Addr) (cl : List (Str × Addr)) (fp : List Addr), Inv X pins σ G v → (∀ b ∈ fp, FpOk X pins G b) → PE (X.blk v G scope (compEnvC scope cl C X.env) fp) elt te)
    (T : Turn X.prog X.w X.K tg J fp it tn) (IL : Inv X pins σ HL sL) (tL : tn 0 sL.heap) (fL : ∀ b ∈ fp, FpOk X pins HL b) (szL : ∀ b ∈ fp, b < sL.heap.objs.size) (w0 : W 0 m0 HL)
    (turn : ∀ i m G, W i m G → (J.stop i G ∧ Q (.ref D) G) ∨ (J.go i G ∧ ∃ Nx : Hp → Prop, (∀ G', Nx G' → ∃ m', m' < m ∧ W (i + 1) m' G') ∧ ∀ x G', J.yld i G x G' → g x (wipe σ (own.map (·.2))) G' fun σ2 G2 => wipe σ2 (own.map (·.2)) = wipe σ (own.map (·.2)) ∧ tYes σ2 G2 fun b G3 =>
      if b = true then te σ2 G3 fun y G4 => ∃ acc, G4 D = some (.lst acc) ∧ acc.length < sizeLine ∧ Nx (upd G4 D (.lst (acc ++ [y]))) else Nx G3)) :
    codeAny (model X.prog X.w) X.A (.compStart (.ListComp elt [⟨tg, iter, [], 0⟩] scope pos) 0 (.ref it) (.ref D) (compEnvC scope (cellsFrom (sL.heap.objs.size + 1) scope.names (cloFrom X.env.cells scope.names [])) sL.heap.objs.size X.env))
      (compPost (model X.prog X.w) X.A X.xe none (EP X pins σ Q) (.ref D) sL.heap.objs.size) { sL with heap := pushCells (sL.heap.push { cls := .type "dict", data := .dict #[] }) scope.names } := by
  have IB := block_start IL nm nd (fun b m => ⟨fL b m, szL b m⟩)
  have tB : tn 0 ({ sL with heap := pushCells (sL.heap.push { cls := .type "dict", data := .dict #[] }) scope.names } : Shared).heap := T.keep _ _ _ tL fun b _ o e => pushCells_keeps _ _ _ _ (Heap.get?_push_of_some _ e)
  have pg := to sL HL sL.heap.objs.size (cellsFrom (sL.heap.objs.size + 1) scope.names (cloFrom X.env.cells scope.names [])) fp
  have pe := el sL HL sL.heap.objs.size (cellsFrom (sL.heap.objs.size + 1) scope.names (cloFrom X.env.cells scope.names [])) fp IL fL
  generalize hce : compEnvC scope (cellsFrom (sL.heap.objs.size + 1) scope.names (cloFrom X.env.cells scope.names [])) sL.heap.objs.size X.env = ce at IB pg pe ⊢
  have cL : ce.locals = sL.heap.objs.size := by subst hce; rfl
  generalize ({ sL with heap := pushCells (sL.heap.push { cls := .type "dict", data := .dict #[] }) scope.names } : Shared) = sB at IB tB ⊢
  have ofp : ∀ {τ : L2.St} {G : Hp} {v : Shared}, Inv (X.blk sL HL scope ce fp) [] τ G v → (∀ b ∈ fp, G b = none) → ∀ b ∈ fp, FpOk (X.blk sL HL scope ce fp) [] G b := fun {τ G v} K n b m =>
    ⟨n b m, (K.ok.exf b m).1, K.ok.exfs b m, .inl m, fun x c e => (K.ok.exf b m).2 x c e, fun p hp => absurd (show p ∈ ([] : List (Addr × Obj)) ++ [] from hp) (by simp)⟩
  have loop : codeAny (model X.prog X.w) X.A (.compLoop (.ListComp elt [⟨tg, iter, [], 0⟩] scope pos) 0 (.ref it) (.ref D) ce) (compPost (model X.prog X.w) X.A X.xe none (EP X pins σ Q) (.ref D) sL.heap.objs.size) sB := by
    refine compLoop_any (fun n v => ∃ i G, Inv (X.blk sL HL scope ce fp) [] (wipe σ (own.map (·.2))) G v ∧ tn i v.heap ∧ (∀ b ∈ fp, G b = none) ∧ W i n G) ?_ m0 ⟨0, HL, IB, tB, fun b m => (fL b m).1, w0⟩
    rintro n v ⟨i, G, Iv, tv, nv, wv⟩
    rcases turn i n G wv with ⟨stop, fin⟩ | ⟨go, Nx, dec, step⟩
    · refine thnF (T.done (X.blk sL HL scope ce fp) rfl rfl rfl calm i [] v _ G (fun _ _ => False) Iv (ofp Iv nv) tv stop) ?_
      rintro _ v1 ⟨rfl, I1⟩
      have Ib : Inv X pins σ G v1 := IL.call' (ch := fp) I1.os I1.base I1.hok I1.bare fun b m => ⟨(fL b m).2.2.2.1, (fL b m).2.1, (fL b m).2.2.2.2.1, (fL b m).2.2.2.2.2⟩
      obtain ⟨mp, ns, _⟩ := I1.loc
      have ns : v1.heap.Ns ce.locals mp := ns
      have nC : G ce.locals = none := I1.free
      rw [cL] at ns nC
      obtain ⟨f0, f1, _, f3, f4, f5⟩ : FpOk X pins G sL.heap.objs.size := IL.fpOk (Nat.le_refl _) nC
      exact ⟨mp, ns, fun h2 sb => ⟨.ref D, G, Ib.turned (t' := v1.toks) (fun b o hb e => (sb.2 b hb).trans e) f0 f1 f3 f4 f5, rfl, fin⟩⟩
    · refine thnF (T.item (X.blk sL HL scope ce fp) rfl rfl rfl calm i [] v _ G (fun _ _ => False) Iv (ofp Iv nv) tv go) ?_
      rintro _ v1 ⟨u, rfl, z1⟩
      refine thnF z1 fun _ v2 ⟨x, G2, I2, r2, y2, t2, n2⟩ => ?_
      refine thnF (pg.run _ v2 _ G2 x u _ (I2.pinned (ofp I2 n2) (T.obj _ _ t2)) r2 (step x G2 y2)) fun _ v3 ⟨σ3, G3, I3, w3, q3⟩ => ?_
      have q3 := (show if true = true then te σ3 G3 _ else Nx G3 from q3)
      rw [if_pos rfl] at q3
      refine wpAny_tests_nil ?_
      rw [if_pos rfl]
      refine thnF (pe.run _ v3 σ3 G3 _ I3 q3) fun z v4 ⟨yv, G4, I4, r4, acc, hD, hz, nx⟩ => ?_
      refine app_ok (X := X.blk sL HL scope ce fp) I4 hD hz r4 fun v5 I5 => ?_
      obtain ⟨m', lt, w'⟩ := dec _ nx
      have kp : ∀ b ∈ fp, ∀ o, v2.heap.get? b = some o → v5.heap.get? b = some o ∧ upd G4 D (.lst (acc ++ [yv])) b = none := fun b m o e =>
        let z := I5.pin (b, o) (List.mem_append_right _ (List.mem_append_right _ (mem_pinsAt m e)))
        ⟨z.1, z.2.1⟩
      have ln : (wipe σ (own.map (·.2))).length = σ3.length := by rw [← w3, wipe_length]
      exact ⟨m', lt, i + 1, _, (I5.unpinned (pins := [])).weak ln (fun j y e => by rw [← w3] at e; exact (wipe_some e).1), T.keep _ _ _ t2 fun b m o e => (kp b m o e).1, fun b m => let ⟨o, e, _⟩ := T.obj _ _ t2 b m; (kp b m o e).2, w'⟩
  exact codeAny_compStart_list loop (T.self X.A 0 _ _ _ tB loop)
theorem lc_own (calm : X.calm = true) (nd : X.N.Nodup) (walk : PI X tg iter wi) (nm : BlkOk X.N X.env.scope scope own)
    (to : ∀ (v : Shared) (G : Hp) (C : Addr) (cl : List (Str × Addr)) (fp : List Addr), PG (X.blk v G scope (compEnvC scope cl C X.env) fp) tg g)
    (el : ∀ (v : Shared) (G : Hp) (C : Addr) (cl : List (Str × Addr)) (fp : List Addr), Inv X pins σ G v → (∀ b ∈ fp, FpOk X pins G b) → PE (X.blk v G scope (compEnvC scope cl C X.env) fp) elt te)
    (plain : ∀ x, foldedSetIterable iter X.env x = pure x) (I : Inv X pins σ H s) (h : tLc wi g tYes te (own.map (·.2)) σ H Q) :
    wpAny (model X.prog X.w) X.A (eval (.ListComp elt [⟨tg, iter, [], 0⟩] scope pos) X.env) (EP X pins σ Q) X.xe s := by
  rw [eval_ListComp]
  refine wpAny_comprehension_free (use := none) rfl plain (closure_ok fun y m e => (nm.free y m e).elim (fun z => I.ok.has _ (.inl z)) fun z => I.ok.has _ (.inr z)) nm.kind (fun y m e => by rw [nm.uniq y m, e])
    (thn (walk.run pins s σ H _ I h) fun _ _ z => thn z fun itv sI zI => ?_)
  obtain ⟨it, fp, tn, J, HI, rfl, II, T, t0, fI, q⟩ := zI
  refine wpAny_newObj_type (newEnv_comp ?_) (by show 0 ≤ sizeLine; decide)
  have nD : HI sI.heap.objs.size = none := II.hok.fresh (Nat.le_refl _)
  obtain ⟨W, ⟨m0, w0⟩, turn⟩ := q _ nD
  have there : ∀ b ∈ fp, b < sI.heap.objs.size := fun b m => let ⟨_, e, _⟩ := T.obj _ _ t0 b m; Heap.lt_size e
  have IL : Inv X pins σ (upd HI sI.heap.objs.size (.lst [])) { sI with heap := sI.heap.push { cls := .type "list", data := .seq ([] : List Value).toArray } } :=
    II.laid (t' := sI.toks) (fun b o e => Heap.get?_push_of_some _ e) (Nat.le_refl _) ⟨Nat.zero_le _, [], 0, .nil, Heap.get?_push_size _ rfl⟩
  have fL : ∀ b ∈ fp, FpOk X pins (upd HI sI.heap.objs.size (.lst [])) b := fun b m => ⟨by rw [upd_ne (Nat.ne_of_lt (there b m))]; exact (fI b m).1, (fI b m).2⟩
  exact lc_blk calm nd nm to el T IL (T.keep _ _ _ t0 fun b _ o e => Heap.get?_push_of_some _ e) fL (fun b m => by show b < (sI.heap.push _).objs.size; rw [Heap.size_push]; exact Nat.lt_succ_of_lt (there b m)) w0 turn
end
section
variable {X : Cx} {elt tg iter : Expr} {scope : Scope} {own : List (Str × Nat)} {pos : Pos} {wi : TI} {g : TG} {te : L2.St → TE}
theorem pe_lcI (calm : X.calm = true) (nd : X.N.Nodup) (walk : PI X tg iter wi) (nm : BlkOk X.N X.env.scope scope own)
    (to : ∀ (v : Shared) (G : Hp) (C : Addr) (cl : List (Str × Addr)) (fp : List Addr), PG (X.blk v G scope (compEnvC scope cl C X.env) fp) tg g)
    (el : ∀ (pins : List (Addr × Obj)) (σ : L2.St) (v : Shared) (G : Hp) (C : Addr) (cl : List (Str × Addr)) (fp : List Addr), Inv X pins σ G v → (∀ b ∈ fp, FpOk X pins G b) → PE (X.blk v G scope (compEnvC scope cl C X.env) fp) elt (te σ))
    (plain : ∀ x, foldedSetIterable iter X.env x = pure x := by intro _; rfl) :
    PE X (.ListComp elt [⟨tg, iter, [], 0⟩] scope pos) (fun σ H Q => tLc wi g tYes (te σ) (own.map (·.2)) σ H Q) :=
  ⟨fun pins s σ H Q I h => lc_own calm nd walk nm to (fun v G C cl fp => el pins σ v G C cl fp) plain I h⟩
end
section
variable {X : Cx} {pins : List (Addr × Obj)} {σ : L2.St} {H : Hp} {s : Shared} {scope : Scope} {ce : Env} {fp : List Addr} {k j : Nat} {g : Addr} {fd : FuncData} {ps : List Str} {sp : Addr → (XK → Hp → VK → Prop) → List V → Hp → VK → Prop} {x : Str} {p pos : Pos} {e : Expr} {es : List Expr} {t : TA}
def tUsesB (X : Cx) (k n : Nat) (sp : Addr → (XK → Hp → VK → Prop) → List V → Hp → VK → Prop) (t : TA) (σ : L2.St) : TE := fun τ G Q => t τ G fun vs G1 => vs.length = n ∧ ∃ f tb, LamOk X k G1 f tb ∧ sp f (fun E G R => tb E σ G R) vs G1 Q
/-- x(e, ..) in a comprehension of the def that made the lambda, e that lambda -/
theorem pe_usesB (I : Inv X pins σ H s) (fI : ∀ b ∈ fp, FpOk X pins H b) (U : Uses X.prog X.w X.K X.mg X.base k j g fd ps sp) (r : Room j X.A) (gl : Gl (X.blk s H scope ce fp) x) (hm : X.mg x = some (.ref g)) (kp : PySem.W.keepIn X.K (.ref g) = true) (b : Binds X.K fd ps [])
    (ha : PA (X.blk s H scope ce fp) (e :: es) t) (db : (x == ("__debug__" : Str)) = false := by decide)
    (h1 : starEach (e :: es) (X.blk s H scope ce fp).env = (false, eval e (X.blk s H scope ce fp).env) :: starEach es (X.blk s H scope ce fp).env := by rfl) (h2 : (backTo pos (starEach es (X.blk s H scope ce fp).env)).any (·.1) = false := by rfl) :
    PE (X.blk s H scope ce fp) (.Call (.Name x p) (e :: es) [] pos) (tUsesB X k ps.length sp t σ) := ⟨fun pn v τ G Q IZ h => by
  refine wpAny_Call_Name_kw (ld_glob IZ gl hm (PySem.W.callWith_K (h₀ := X.base) IZ.mod.kin kp (thn (ha.run pos pn v τ G _ IZ h) ?_) h1 h2) db)
  rintro us v1 ⟨vs, G1, I1, vv, l, f, tb, lo, hG⟩
  have l2 : us.length = ps.length := vv.length ▸ l
  have bt : BindsTo v1 fd ⟨us, []⟩ (ps.zip us) := by
    have z := b v1 us I1.kIn (by rw [List.append_nil]; exact l2)
    rw [List.append_nil] at z
    exact z
  have Ix : Inv X pins σ G1 v1 := I.call' (ch := fp) I1.os I1.base I1.hok I1.bare fun b m => ⟨(fI b m).2.2.2.1, (fI b m).2.1, (fI b m).2.2.2.2.1, (fI b m).2.2.2.2.2⟩
  obtain ⟨J, jG, ac⟩ := lo.acts Ix
  exact ⟨I1.kIn, wpAny_call (codeAny_mono (U _ _ _ _ _ us vs Q f J _ r I1.env0 bt vv l ac jG hG) fun _ _ q => end_of (CX := C8.CX0) (E := C8.E0) I1 (fun _ _ _ _ _ _ _ z => z.elim) q)⟩⟩
end
end NC
namespace NC
open PySem PySem.Spec PyProof.Rows L2
abbrev sWord : Stmt := topS 95
abbrev sRef : Stmt := topS 96
abbrev nWord : List Str := ["_law_ask", "_law_found", "e"]
theorem scWord : FnScope nWord ["_law_ask"] (defScope sWord) := ⟨rfl, rfl, rfl, by decide +kernel, rfl, by decide +kernel, by decide +kernel⟩
theorem scRef : FnScope ["_law_ask", "_law_due"] ["_law_ask", "_law_due"] (defScope sRef) := ⟨rfl, rfl, rfl, by decide +kernel, rfl, by decide +kernel, by decide +kernel⟩
/-- e.f in a suite, the class told by the reading -/
def tXfG (K : PySem.W.Frag) (a : Addr) (cls : Value) (d : Option Addr) (f : Str) (te : TE) : TE := fun σ H Q => te σ H fun x H1 => x = .ref a ∧ ∃ (C dd : Addr) (fs : List (Str × V)) (v : V), cls = .ref C ∧ XfC K C ∧ PySem.W.findIn K (.ref C) f = some none ∧ d = some dd ∧ H1 dd = some (.xd fs) ∧ fs.lookup f = some v ∧ Q v H1
theorem pe_xfG {X : Cx} {a : Addr} {oe : Obj} {cls : Value} {d : Option Addr} {pn : List (Addr × Obj)} {e : Expr} {i : Nat} {pos : Pos} {n : Str} (hz : Zc cls d oe) (hf : ∃ vs, oe.data = .fields vs) (at_ : PE (X.suite a ((a, oe) :: pn)) e (tVar i))
    (hb : attributeBase e n X.env (eval e X.env) = eval e X.env := by rfl) : PE (X.suite a ((a, oe) :: pn)) (.Attribute e n pos) (tXfG X.K a cls d n (tVar i)) :=
  ⟨fun ps s σ H Q I ⟨v, sv, ev, C, dd, fs, u, ec, T, no, ed, ea, lu, q⟩ => (pe_xf (C := C) T no hz hf at_ hb).run ps s σ H Q I ⟨v, sv, ev, ec, dd, fs, u, ed, ea, lu, q⟩⟩
theorem takes_len {X : Cx} {W : WX} (t : Takes X W) : Takes X (fun c d σ H => σ.length = X.N.length → W c d σ H) := fun u s' ⟨a, B, sI, pins, σ, H, cls, d, e, I, nb, up, sky, na, os, ag, w⟩ =>
  t u s' ⟨a, B, sI, pins, σ, H, cls, d, e, I, nb, up, sky, na, os, ag, w I.len⟩
def FldAt (K : PySem.W.Frag) (cls : Value) (d : Option Addr) (f : Str) (H : Hp) (q : V → Prop) : Prop := ∃ (C dd : Addr) (fs : List (Str × V)) (v : V), cls = .ref C ∧ XfC K C ∧ PySem.W.findIn K (.ref C) f = some none ∧ d = some dd ∧ H dd = some (.xd fs) ∧ fs.lookup f = some v ∧ q v
/-- the three families -/
abbrev fam (CH CM CN : Addr) : List Value := [.ref CH, .ref CM, .ref CN]
def EchW (K : PySem.W.Frag) (CH CM CN : Addr) (Q : VK) : XK := fun cls d H' => PySem.W.exmAny K cls (fam CH CM CN) = some true ∧ FldAt K cls d "word" H' fun v => ∀ T, H' T = none → Q (.ref T) (upd H' T (.tup [.non, v]))
/-- what _law_word makes of what it asks -/
def spWord (K : PySem.W.Frag) (CH CM CN : Addr) : Addr → (XK → Hp → VK → Prop) → List V → Hp → VK → Prop := fun f tl vs H Q => vs = [.ref f] ∧ tl (EchW K CH CM CN Q) H fun x H1 => 2 ≤ sizeLine ∧ ∀ T, H1 T = none → ∃ v, some (some (V.ref T)) = some (some v) ∧ Q v (upd H1 T (.tup [x, .str ""]))
section
variable {P : Program} {w : World} {K : PySem.W.Frag} {mg : Str → Option Value} {base : Heap}
set_option maxHeartbeats 1000000 in
theorem ok_word {g CH CM CN : Addr} {fd : FuncData} {k : Nat} (F : Fun K "_law_word" "_law_word" sWord g fd) (hH : mg "HallError" = some (.ref CH)) (hM : mg "Missing" = some (.ref CM)) (hN : mg "NothingLeft" = some (.ref CN)) : Uses P w K mg base k (k + 2) g fd ["_law_ask"] (spWord K CH CM CN) := by
  refine uses_of F scWord fun cdv A out s H vs Q f J tl hr a jH h => ?_
  obtain ⟨rfl, h⟩ := h
  refine ⟨_, pss_cons (ps_try_tup (X := (cxOf C8.CX0 P w K mg base nWord "_law_word" (defScope sWord) g cdv A out s H C8.E0).nox)
      (tb := fun W D σ G => ∃ Ech : XK, (∀ cls d σ' H', Ech cls d H' → σ'.length = 3 → W cls d σ' H') ∧ tAsg (tTup (tCons (fun σZ HZ R => σZ[0]? = some (some (.ref f)) ∧ J HZ ∧ tl Ech HZ R) (tCons (tC (.str "")) tNil))) (gName 1) D σ G)
      (i := 2) (c1 := .ref CH) (c2 := .ref CM) (c3 := .ref CN) (ts := fun a cls d => tAsg (tTup (tCons (tC .non) (tCons (tXfG K a cls d "word" (tVar 2)) tNil))) (gName 1))
      rfl rfl scWord.nd LamX.takes0 (fun W pn xe tk => ?_) rfl rfl ⟨rfl, by decide, .inl hH⟩ ⟨rfl, by decide, .inl hM⟩ ⟨rfl, by decide, .inl hN⟩
      (fun a oe cls d pn hz hf => pss_one (ps_set (i := 1) scWord.nd rfl (.inl rfl) (pe_tup (pa_cons pe_non (pa_cons (pe_xfG hz hf (pv 2)) pa_nil))))))
    (pss_one (ps_ret (pv 1))), ?_⟩
  · refine ⟨fun pins s' σ G D I h' => ?_⟩
    obtain ⟨Ech, hW, h3⟩ := h'
    exact (pss_one (ps_set (X := (cxOf C8.CX0 P w K mg base nWord "_law_word" (defScope sWord) g cdv A out s H C8.E0).nox.tr pn xe) (i := 1) scWord.nd rfl (.inl rfl)
      (pe_tup (pa_cons (pe_thunk (E := Ech) a rfl (passes_call (takes_len tk) hW) hr (pv 0)) (pa_cons pe_str pa_nil))))).run pins s' σ G D I h3
  · refine ⟨EchW K CH CM CN Q, fun cls d σ' H' he hl => ?_, ⟨rfl, jH, h⟩⟩
    obtain ⟨y0, y1, y2, rfl⟩ : ∃ y0 y1 y2, σ' = [y0, y1, y2] := by
      match σ', hl with
      | [a, b, c], _ => exact ⟨a, b, c, rfl⟩
    obtain ⟨e1, C, dd, fs, v, h1, h2, h3, h4, h5, h6, h7⟩ := he
    exact ⟨true, e1, fun _ a na => ⟨_, rfl, rfl, C, dd, fs, v, h1, h2, h3, h4, h5, h6, by show 2 ≤ sizeLine; decide, fun T nT => ⟨_, rfl, h7 T nT⟩⟩, fun z => by cases z⟩
/-- what _law_refused makes of what it asks, where that is refused; Good: how -/
def spRef (K : PySem.W.Frag) (CH CM CN : Addr) : Addr → (XK → Hp → VK → Prop) → List V → Hp → VK → Prop := fun f tl vs H Q => ∃ (due : Str) (Good : XK), vs = [.ref f, .str due] ∧ okS due ∧
  (∀ cls d G, Good cls d G → PySem.W.exmAny K cls (fam CH CM CN) = some true ∧ FldAt K cls d "word" G fun v => ∃ z, v = .str z ∧ okS z ∧ ∀ G', Same G G' → Q (.bl (decide (z = due))) G') ∧ ∀ (E : XK) (R : VK), (∀ cls d G, Good cls d G → E cls d G) → tl E H R
theorem none_shaped {z : Str} (h : okS z) : SeqAt.shaped (.tuple [.none, .str z]) = true := by
  have q := strOk_of h
  show (PyData.canLay0 _ && decide (PyData.depth _ ≤ 64)) = true
  simp [PyData.canLay0, PyData.canLayAll0, PyData.depth, PyData.depthAll, q]
theorem none_eqv (a b : Str) : PyData.eqv (.tuple [.none, .str a]) (.tuple [.none, .str b]) = decide (a = b) := by
  show (PyData.eqv .none .none && (PyData.eqv (.str a) (.str b) && true)) = _
  by_cases e : a = b
  · subst e
    simp [PyData.eqv]
  · simp [PyData.eqv, e]
set_option maxHeartbeats 1000000 in
theorem ok_ref {g gW CH CM CN : Addr} {fd fdW : FuncData} {k : Nat} (F : Fun K "_law_refused" "_law_refused" sRef g fd) (W : DF K mg "_law_word" sWord ["_law_ask"] gW fdW) (hH : mg "HallError" = some (.ref CH)) (hM : mg "Missing" = some (.ref CM)) (hN : mg "NothingLeft" = some (.ref CN)) :
    Uses P w K mg base k (k + 3) g fd ["_law_ask", "_law_due"] (spRef K CH CM CN) := by
  have UW : Uses P w K mg base k (k + 2) gW fdW ["_law_ask"] (spWord K CH CM CN) := ok_word W.F hH hM hN
  refine uses_of F scRef fun cdv A out s H vs Q f J tl hr a jH h => ?_
  obtain ⟨due, Good, rfl, hd, hg, h⟩ := h
  refine ⟨_, pss_one (ps_ret (pe_cmpR (op_eqD hr.units) (pe_uses UW hr (by rfl) W.g W.F.kp W.b (pa_cons (pv 0) pa_nil) a rfl) (pe_tup (pa_cons pe_non (pa_cons (pv 1) pa_nil))) (nomark _))), ?_⟩
  refine ⟨_, rfl, rfl, jH, rfl, h _ _ fun cls d G hG => ?_⟩
  obtain ⟨e1, C, dd, fs, v, h1, h2, h3, h4, h5, h6, z, rfl, hz, q⟩ := hg cls d G hG
  refine ⟨e1, C, dd, fs, _, h1, h2, h3, h4, h5, h6, fun T nT => ?_⟩
  refine ⟨_, rfl, by show 2 ≤ sizeLine; decide, fun T2 nT2 => ?_⟩
  have n12 : T ≠ T2 := ne_of_none upd_same nT2
  refine ⟨_, _, .tup (a := T) (xs := [V.non, .str z]) (SqT.of (by rw [upd_ne n12, upd_same])) (.cons .non (.cons (.str _) .nil)), .tup (a := T2) (xs := [V.non, .str due]) (SqT.of upd_same) (.cons .non (.cons (.str _) .nil)), none_shaped hz, none_shaped hd, ?_⟩
  rw [none_eqv]
  exact q _ (sm_upd (same_upd nT) nT2)
end
end NC
namespace NC
open PySem PySem.Spec PyProof.Rows L2
theorem LamOk.upd {X : Cx} {k : Nat} {G : Hp} {f b : Addr} {t : XK → TE} {xs ys : List V} (h : LamOk X k G f t) (e : G b = some (.lst xs)) : LamOk X k (L2.upd G b (.lst ys)) f t := by
  obtain ⟨params, body, scope, pm, c', ctv, a, gf, gc, d, r⟩ := h
  exact ⟨params, body, scope, pm, c', ctv, a, by rw [upd_ne (ne_of gf e fun z => by unfold FnO at z; cases z)]; exact gf, by rw [upd_ne (ne_of gc e fun z => by unfold LamX.CodeO at z; cases z)]; exact gc, d, r⟩
theorem LamOk.same {X : Cx} {k : Nat} {G G1 : Hp} {f : Addr} {t : XK → TE} (h : LamOk X k G f t) (e : Same G G1) : LamOk X k G1 f t := h.ext (.of e)
theorem tabs_smx {T : List (Addr × Str)} {H H' : Hp} {d : Addr} (t : LamX.Tabs T H) (D : Dr H d) (s : SmX d H H') : LamX.Tabs T H' := fun p hp => by
  obtain ⟨ps, h1, h2, h3⟩ := t p hp
  obtain ⟨c0, ns, i, a, b, e, hd, _⟩ := D
  refine ⟨ps, s _ _ (ne_of h1 hd fun z => by cases z) h1, h2, fun pos cv hc => ?_⟩
  obtain ⟨c, e1, e2⟩ := h3 pos cv hc
  exact ⟨c, e1, s _ _ (ne_of e2 hd fun z => by unfold LamX.CodeO at z; cases z) e2⟩
theorem Dr.ext {H H' : Hp} {d : Addr} (h : Dr H d) (e : LamX.ExtN H H') : Dr H' d := by
  obtain ⟨c, ns, i, a, b, f, h1, h2, h3⟩ := h
  exact ⟨c, ns, i, a, b, f, e _ _ h1 (fun _ z => by cases z), e _ _ h2 (fun _ z => by cases z), h3⟩
theorem tabs_upd {T : List (Addr × Str)} {H : Hp} {b : Addr} {xs ys : List V} (t : LamX.Tabs T H) (h : H b = some (.lst xs)) : LamX.Tabs T (L2.upd H b (.lst ys)) := fun p hp => by
  obtain ⟨ps, h1, h2, h3⟩ := t p hp
  refine ⟨ps, by rw [upd_ne (ne_of h1 h fun z => by cases z)]; exact h1, h2, fun pos cv hc => ?_⟩
  obtain ⟨c, e1, e2⟩ := h3 pos cv hc
  exact ⟨c, e1, by rw [upd_ne (ne_of e2 h fun z => by unfold LamX.CodeO at z; cases z)]; exact e2⟩
section
variable {d c rA C x dx sb D : Addr} {R : List V} {l : List Nat} {ys : List Str} {fo : Nat → List Nat} {H H' : Hp} {T : List (Addr × Str)}
theorem St6.ext (s : St6 d c rA R C x dx sb D l ys fo H) (e : LamX.ExtN H H') : St6 d c rA R C x dx sb D l ys fo H' :=
  ⟨s.dr.ext e, let ⟨r, h⟩ := s.hc; ⟨r, e _ _ h (fun _ z => by cases z)⟩, e _ _ s.rA (fun _ z => by cases z), ⟨e _ _ s.hA.x (fun _ z => by cases z), e _ _ s.hA.sb (fun _ z => by cases z), e _ _ s.hA.D (fun _ z => by cases z)⟩⟩
/-- and the table of the law's lambdas -/
structure St7 (T : List (Addr × Str)) (d c rA : Addr) (R : List V) (C x dx sb D : Addr) (l : List Nat) (ys : List Str) (fo : Nat → List Nat) (H : Hp) : Prop where
  S : St6 d c rA R C x dx sb D l ys fo H
  T : LamX.Tabs T H
theorem St7.same (s : St7 T d c rA R C x dx sb D l ys fo H) (e : Same H H') : St7 T d c rA R C x dx sb D l ys fo H' := ⟨s.S.same e, s.T.ext e⟩
theorem St7.ext (s : St7 T d c rA R C x dx sb D l ys fo H) (e : LamX.ExtN H H') (t : LamX.Tabs T H') : St7 T d c rA R C x dx sb D l ys fo H' := ⟨s.S.ext e, t⟩
theorem St7.smd (s : St7 T d c rA R C x dx sb D l ys fo H) (nr : rA ≠ d) (ns : sb ≠ d) (e : SmD d H H') (D' : Dr H' d) : St7 T d c rA R C x dx sb D l ys fo H' := ⟨s.S.smd nr ns e D', tabs_smx s.T s.S.dr e.1⟩
theorem St7.put (s : St7 T d c rA R C x dx sb D l ys fo H) {p : Addr} (n : H p = none) (s' : St7 T d c rA R C x dx sb D l ys fo H') {xs zs : List V} (e : H' p = some (.lst xs)) : St7 T d c rA R C x dx sb D l ys fo (L2.upd H' p (.lst zs)) := ⟨s.S.new n s'.S, tabs_upd s'.T e⟩
end
end NC
namespace NC
open PySem PySem.Spec PyProof.Rows L2
/-- which of two rooms comes first -/
def Bef (l a b : List Nat) : Prop := ∃ i, i < a.length ∧ i < b.length ∧ a.take i = b.take i ∧ a.getD i 0 = upc (l.getD i 0) ∧ b.getD i 0 = l.getD i 0
theorem allT_lens' (l : List Nat) : ∀ k r, r ∈ allT l k → r.length = k
  | 0, r, h => by rw [List.mem_singleton.mp h]; rfl
  | k + 1, r, h => by
    obtain ⟨q, hq, hr⟩ := List.mem_flatMap.mp h
    have := allT_lens' l k q hq
    simp only [List.mem_cons, List.not_mem_nil, or_false] at hr
    rcases hr with rfl | rfl <;> simp [this]
theorem getD_app {a : List Nat} {x i : Nat} (h : i < a.length) : (a ++ [x]).getD i 0 = a.getD i 0 := by
  rw [List.getD_eq_getElem?_getD, List.getD_eq_getElem?_getD, List.getElem?_append_left h]
theorem getD_last {a : List Nat} {x : Nat} : (a ++ [x]).getD a.length 0 = x := by
  rw [List.getD_eq_getElem?_getD, List.getElem?_append_right (Nat.le_refl _), Nat.sub_self]
  rfl
theorem allT_pw (l : List Nat) : ∀ k, (allT l k).Pairwise (Bef l)
  | 0 => by simp [allT]
  | k + 1 => by
    show ((allT l k).flatMap fun r => [r ++ [upc (l.getD k 0)], r ++ [l.getD k 0]]).Pairwise (Bef l)
    rw [List.pairwise_flatMap]
    refine ⟨fun r hr => ?_, ?_⟩
    · have rl := allT_lens' l k r hr
      rw [List.pairwise_cons]
      refine ⟨fun b hb => ?_, by simp⟩
      rw [List.mem_singleton.mp hb]
      refine ⟨r.length, by simp, by simp, by simp, ?_, ?_⟩
      · rw [getD_last, rl]
      · rw [getD_last, rl]
    · refine List.Pairwise.imp_of_mem ?_ (allT_pw l k)
      rintro a b ha hb ⟨i, h1, h2, h3, h4, h5⟩ x hx y hy
      obtain ⟨u, rfl⟩ : ∃ u, x = a ++ [u] := by
        rcases List.mem_cons.mp hx with z | z
        · exact ⟨_, z⟩
        · exact ⟨_, List.mem_singleton.mp z⟩
      obtain ⟨v, rfl⟩ : ∃ v, y = b ++ [v] := by
        rcases List.mem_cons.mp hy with z | z
        · exact ⟨_, z⟩
        · exact ⟨_, List.mem_singleton.mp z⟩
      refine ⟨i, by rw [List.length_append]; exact Nat.lt_of_lt_of_le h1 (Nat.le_add_right _ _), by rw [List.length_append]; exact Nat.lt_of_lt_of_le h2 (Nat.le_add_right _ _), ?_, ?_, ?_⟩
      · rw [List.take_append_of_le_length (Nat.le_of_lt h1), List.take_append_of_le_length (Nat.le_of_lt h2), h3]
      · rw [getD_app h1, h4]
      · rw [getD_app h2, h5]
/-- the sides behind so many walls -/
def wS (fo : Nat → List Nat) (l W : List Nat) : Nat → List Nat
  | 0 => W
  | i + 1 => if l.getD i 0 ∈ wS fo l W i then wS fo l W i else wS fo l W i ++ fo (upc (l.getD i 0))
theorem wS_le {fo : Nat → List Nat} {l W : List Nat} {i j : Nat} (h : i ≤ j) : ∀ {t}, t ∈ wS fo l W i → t ∈ wS fo l W j := by
  induction j with
  | zero =>
    intro t ht
    rw [show i = 0 by omega] at ht
    exact ht
  | succ j ih =>
    intro t ht
    rcases Nat.lt_or_ge j i with z | z
    · rw [show i = j + 1 by omega] at ht
      exact ht
    · have := ih z ht
      show t ∈ (if l.getD j 0 ∈ wS fo l W j then wS fo l W j else wS fo l W j ++ fo (upc (l.getD j 0)))
      split
      · exact this
      · exact List.mem_append_left _ this
section
variable {l : List Nat} (g : GoodW l) {bs : List (List Nat)} (hb : ∀ b ∈ bs, isBar l b = true) {fo : Nat → List Nat} (hf : ∀ s ∈ sds l, ∀ t, t ∈ fo s ↔ Frc (adjOf bs) s t) (ok : Okv l bs)
/-- sides that force nothing more, no two of one wall -/
structure Clo (l : List Nat) (bs : List (List Nat)) (W : List Nat) : Prop where
  sd : ∀ t ∈ W, t ∈ sds l
  adj : ∀ t ∈ W, ∀ u ∈ adjOf bs t, u ∈ W
  one : ∀ t ∈ W, swp t ∉ W
include g hb hf ok
theorem no_self {s : Nat} (hs : s ∈ sds l) : ¬ Frc (adjOf bs) s (swp s) := fun h => by
  have e := ok fo hf
  unfold vdOf at e
  split at e
  · cases e
  · next hn =>
    have := List.find?_eq_none.mp hn s hs
    unfold fxP at this
    rw [decide_eq_true_eq] at this
    exact this ((hf s hs _).mpr h)
theorem Clo.grow {W : List Nat} (h : Clo l bs W) {c : Nat} (hc : c ∈ l) (hn : c ∉ W) : Clo l bs (W ++ fo (upc c)) := by
  have sm := g.sm c hc
  have hg : upc c ∈ sds l := by rw [upc_small sm]; exact sds_of_great g hc
  have e2 : swp (upc c) = c := by rw [upc_small sm, swp_great (by omega)]; omega
  have F : ∀ t, t ∈ fo (upc c) ↔ Frc (adjOf bs) (upc c) t := hf _ hg
  have cl : ∀ t ∈ W, ∀ u, Frc (adjOf bs) t u → u ∈ W := fun t ht u hu => hu.ind (p := fun x => x ∈ W) ht fun a b ha k => h.adj a ha b k
  have cross : ∀ t ∈ W, swp t ∈ fo (upc c) → False := fun t ht h2 => by
    have := Frc.back g hb hg ((F _).mp h2)
    rw [swp_swp (sds_lt g (h.sd t ht)), e2] at this
    exact hn (cl t ht c this)
  refine ⟨fun t ht => ?_, fun t ht u hu => ?_, fun t ht h2 => ?_⟩
  · rcases List.mem_append.mp ht with z | z
    · exact h.sd t z
    · exact Frc.mem g hb hg ((F t).mp z)
  · rcases List.mem_append.mp ht with z | z
    · exact List.mem_append_left _ (h.adj t z u hu)
    · exact List.mem_append_right _ ((F u).mpr (((F t).mp z).step hu))
  · rcases List.mem_append.mp ht with z | z <;> rcases List.mem_append.mp h2 with y | y
    · exact h.one t z y
    · exact cross t z y
    · refine cross (swp t) y ?_
      rw [swp_swp (sds_lt g (Frc.mem g hb hg ((F t).mp z)))]
      exact z
    · exact no_self g hb hf ok hg (Frc.torn g hb hg ((F t).mp z) ((F _).mp y))
theorem wS_clo {W : List Nat} (h : Clo l bs W) : ∀ i, i ≤ l.length → Clo l bs (wS fo l W i)
  | 0, _ => h
  | i + 1, hi => by
    have ih := wS_clo h i (by omega)
    have hil : i < l.length := by omega
    have e : l.getD i 0 = l[i] := by rw [List.getD_eq_getElem?_getD, List.getElem?_eq_getElem hil]; rfl
    show Clo l bs (if l.getD i 0 ∈ wS fo l W i then wS fo l W i else wS fo l W i ++ fo (upc (l.getD i 0)))
    split
    · exact ih
    · next hn => exact Clo.grow g hb hf ok ih (by rw [e]; exact List.getElem_mem hil) hn
theorem wS_full {W : List Nat} {i : Nat} (hi : i < l.length) : l[i] ∈ wS fo l W (i + 1) ∨ upc l[i] ∈ wS fo l W (i + 1) := by
  have e : l.getD i 0 = l[i] := by rw [List.getD_eq_getElem?_getD, List.getElem?_eq_getElem hi]; rfl
  have sm := g.sm _ (List.getElem_mem hi)
  have hg : upc l[i] ∈ sds l := by rw [upc_small sm]; exact sds_of_great g (List.getElem_mem hi)
  show _ ∈ (if l.getD i 0 ∈ wS fo l W i then wS fo l W i else wS fo l W i ++ fo (upc (l.getD i 0))) ∨ _ ∈ (if l.getD i 0 ∈ wS fo l W i then wS fo l W i else wS fo l W i ++ fo (upc (l.getD i 0)))
  rw [e]
  split
  · next h => exact .inl h
  · exact .inr (List.mem_append_right _ ((hf _ hg _).mpr Frc.refl))
theorem clo_room {W : List Nat} (h : Clo l bs W) (full : ∀ c ∈ l, c ∈ W ∨ upc c ∈ W) : byWT l W = rmOf l (fun c => decide (c ∈ W)) ∧ rmOf l (fun c => decide (c ∈ W)) ∈ rms l bs := by
  have e1 : ∀ c ∈ l, swp c = upc c := fun c hc => by rw [swp_small (g.sm c hc), upc_small (g.sm c hc)]
  constructor
  · unfold byWT rmOf
    have : ∀ L : List Nat, (∀ c ∈ L, c ∈ l) → (L.flatMap fun c => [swp c, c].filter fun e => decide (e ∈ W)) = L.map fun c => if decide (c ∈ W) = true then c else upc c := fun L => by
      induction L with
      | nil => intro _; rfl
      | cons c r ih =>
        intro hL
        have hc := hL c (List.mem_cons_self ..)
        rw [List.flatMap_cons, List.map_cons, ih fun x hx => hL x (List.mem_cons_of_mem _ hx), e1 c hc]
        by_cases hw : c ∈ W
        · have hn : upc c ∉ W := fun z => h.one c hw (by rw [e1 c hc]; exact z)
          simp [hw, hn]
        · have hy : upc c ∈ W := (full c hc).resolve_left hw
          simp [hw, hy]
    exact this l fun c hc => hc
  · refine (rms_mem g hb _).mpr ⟨_, rfl, fun x y hxy ⟨v1, v2⟩ => ?_⟩
    obtain ⟨x', y', e, hx, hy, _⟩ := bar_two (hb _ hxy)
    cases e
    have vW : ∀ t ∈ sds l, val (fun c => decide (c ∈ W)) t = true → t ∈ W := fun t ht v => by
      rcases sds_shape g ht with z | z
      · rw [val_small ⟨z.1, z.2.1⟩] at v
        exact of_decide_eq_true v
      · unfold val at v
        rw [if_pos (by omega)] at v
        have hn : t + 32 ∉ W := by simpa using v
        have := (full (t + 32) z.2.2).resolve_left hn
        rw [upc_small (by omega), show t + 32 - 32 = t by omega] at this
        exact this
    exact h.one y (vW y hy v2) (h.adj x (vW x hx v1) _ ((adj_iff g hb (sds_lt g (sds_swp g hy))).mpr (.inl (by rw [swp_swp (sds_lt g hy)]; exact hxy))))
end
end NC
namespace NC
open PySem PySem.Spec PyProof.Rows L2
section
variable {l : List Nat} (g : GoodW l) {bs : List (List Nat)} (hb : ∀ b ∈ bs, isBar l b = true) {fo : Nat → List Nat} (hf : ∀ s ∈ sds l, ∀ t, t ∈ fo s ↔ Frc (adjOf bs) s t) (ok : Okv l bs)
include g hb hf ok
theorem torn_iff {P : List Nat} (hP : ∀ c ∈ P, c ∈ sds l) : tornL l (allFo fo P) = [] ↔ ∃ z ∈ rms l bs, ∀ s ∈ P, s ∈ z := by
  constructor
  · intro h
    have c0 : Clo l bs (allFo fo P) := ⟨fun t ht => allFo_sd g hb hf hP ht, fun t ht u hu => allFo_adj g hb hf hP ht hu, fun t ht h2 => by
      have hs := allFo_sd g hb hf hP ht
      have : ∃ c ∈ l, c ∈ allFo fo P ∧ swp c ∈ allFo fo P := by
        rcases sds_shape g hs with z | z
        · exact ⟨t, z.2.2, ht, h2⟩
        · refine ⟨t + 32, z.2.2, ?_, ?_⟩
          · rw [swp_great ⟨z.1, z.2.1⟩] at h2
            exact h2
          · rw [swp_small (by omega), show t + 32 - 32 = t by omega]
            exact ht
      obtain ⟨c, hc, h3, h4⟩ := this
      have : c ∈ tornL l (allFo fo P) := List.mem_filter.mpr ⟨hc, by rw [decide_eq_true h3, decide_eq_true h4]; rfl⟩
      rw [h] at this
      cases this⟩
    have self : ∀ t ∈ P, t ∈ allFo fo P := fun t ht => allFo_self g hb hf hP ht
    generalize allFo fo P = W0 at c0 self
    have cF := wS_clo g hb hf ok c0 l.length (Nat.le_refl _)
    have full : ∀ c ∈ l, c ∈ wS fo l W0 l.length ∨ upc c ∈ wS fo l W0 l.length := fun c hc => by
      obtain ⟨i, hi, rfl⟩ := List.getElem_of_mem hc
      exact (wS_full g hb hf ok hi).imp (wS_le hi) (wS_le hi)
    obtain ⟨eZ, hZ⟩ := clo_room g hb hf ok cF full
    refine ⟨_, hZ, fun s hs => ?_⟩
    rw [← eZ]
    exact (byWT_mem g).mpr ⟨hP s hs, wS_le (Nat.zero_le _) (self s hs)⟩
  · rintro ⟨z, hz, hin⟩
    exact torn_no g hb hf hP hz hin
theorem side_room {s : Nat} (hs : s ∈ sds l) : ∃ z ∈ rms l bs, s ∈ z := by
  have hP : ∀ c ∈ [s], c ∈ sds l := fun c hc => by rw [List.mem_singleton.mp hc]; exact hs
  obtain ⟨z, hz, h⟩ := (torn_iff g hb hf ok hP).mp (by
    unfold tornL
    rw [List.filter_eq_nil_iff]
    intro c hc h
    rw [Bool.and_eq_true, decide_eq_true_eq, decide_eq_true_eq] at h
    obtain ⟨a1, h1, f1⟩ := (allFo_mem g hb hf hP).mp h.1
    obtain ⟨a2, h2, f2⟩ := (allFo_mem g hb hf hP).mp h.2
    rw [List.mem_singleton.mp h1] at f1
    rw [List.mem_singleton.mp h2] at f2
    exact no_self g hb hf ok hs (Frc.torn g hb hs f1 f2))
  exact ⟨z, hz, h s (List.mem_singleton.mpr rfl)⟩
theorem in_all {P : List Nat} (hP : ∀ c ∈ P, c ∈ sds l) {q : List Nat} (hq : q ∈ rms l bs) (hin : ∀ s ∈ P, s ∈ q) {t : Nat} (ht : t ∈ sds l) : (∀ r ∈ rms l bs, (∀ s ∈ P, s ∈ r) → t ∈ r) ↔ t ∈ allFo fo P := by
  refine ⟨fun h => Decidable.byContradiction fun hn => ?_, fun h r hr hi => allFo_in g hb hf hP hr hi h⟩
  obtain ⟨y, hy, hsw⟩ := side_room g hb hf ok (sds_swp g ht)
  obtain ⟨hN, hNin⟩ := wov_room g hb hf hP hq hin hy
  have h1 := h _ hN hNin
  have h2 : swp t ∈ wov (allFo fo P) y := by
    unfold wov
    refine List.mem_map.mpr ⟨swp t, hsw, ?_⟩
    rw [swp_swp (sds_lt g ht), if_neg hn]
  exact room_one g hb hf hN ht h1 h2
end
end NC
namespace NC
open PySem PySem.Spec PyProof.Rows L2
def low (T : List Nat) : List Nat := T.map lwc
def ltrs' : List Nat := (List.range 26).map (· + 97)
def byS (X : List Nat) : List Nat := ltrs'.flatMap fun c => X.filter fun s => decide (lwc s = c)
theorem lwc_sd {l : List Nat} (g : GoodW l) {s : Nat} (h : s ∈ sds l) : lwc s ∈ l := by
  rcases sds_shape g h with z | z
  · unfold lwc
    rw [if_neg (by omega)]
    exact z.2.2
  · unfold lwc
    rw [if_pos (by omega)]
    exact z.2.2
theorem rise_eq {a b : List Nat} (ha : a.Pairwise (· < ·)) (hb : b.Pairwise (· < ·)) (h : ∀ c, c ∈ a ↔ c ∈ b) : a = b := by
  have p : a.Perm b := (List.perm_ext_iff_of_nodup (ha.imp fun h => Nat.ne_of_lt h) (hb.imp fun h => Nat.ne_of_lt h)).mpr h
  exact p.eq_of_pairwise (fun x y _ _ h1 h2 => by omega) ha hb
theorem ltrs_rise : ltrs'.Pairwise (· < ·) := by decide +kernel
theorem byS_is {l : List Nat} (g : GoodW l) {X : List Nat} (nd : X.Nodup) (h : ∀ c ∈ X, c ∈ l) : byS X = l.filter fun c => decide (c ∈ X) := by
  have e1 : byS X = ltrs'.filter fun c => decide (c ∈ X) := by
    unfold byS
    have one : ∀ c, (X.filter fun s => decide (lwc s = c)) = if c ∈ X then [c] else [] := fun c => by
      have e : (X.filter fun s => decide (lwc s = c)) = X.filter fun s => decide (s = c) := List.filter_congr fun s hs => by
        have := g.sm s (h s hs)
        have : lwc s = s := by unfold lwc; rw [if_neg (by omega)]
        rw [this]
      rw [e]
      clear e h
      induction X with
      | nil => rfl
      | cons x r ih =>
        have hn := List.nodup_cons.mp nd
        rw [List.filter_cons, ih hn.2]
        by_cases z : x = c
        · subst z
          simp [hn.1]
        · have z2 : ¬ c = x := fun y => z y.symm
          simp [z, z2]
    rw [show (fun c => X.filter fun s => decide (lwc s = c)) = fun c => if c ∈ X then [c] else [] from funext one]
    generalize ltrs' = L
    induction L with
    | nil => rfl
    | cons c r ih =>
      rw [List.flatMap_cons, ih, List.filter_cons]
      by_cases z : c ∈ X <;> simp [z]
  rw [e1]
  refine rise_eq (ltrs_rise.filter _) (g.rise.filter _) fun c => ?_
  rw [List.mem_filter, List.mem_filter, decide_eq_true_eq]
  refine ⟨fun z => ⟨h c z.2, z.2⟩, fun z => ⟨?_, z.2⟩⟩
  have := g.sm c z.1
  unfold ltrs'
  exact List.mem_map.mpr ⟨c - 97, List.mem_range.mpr (by omega), by omega⟩
end NC
namespace NC
open PySem PySem.Spec PyProof.Rows L2
/-- one side of each wall -/
structure Trn (l t : List Nat) : Prop where
  len : t.length = l.length
  pm : (t.map lwc).Perm l
def ov : List Nat → List Nat → Nat → Nat
  | c :: l, s :: t, x => if x = c then s else if x = swp c then swp s else ov l t x
  | _, _, x => x
theorem ov_at : ∀ {l t : List Nat}, (∀ c ∈ l, 97 ≤ c ∧ c ≤ 122) → l.Nodup → ∀ {i c s : Nat}, l[i]? = some c → t[i]? = some s → ov l t c = s ∧ ov l t (swp c) = swp s
  | [], _, _, _, i, c, s, h, _ => by simp at h
  | _ :: _, [], _, _, i, c, s, _, h => by simp at h
  | a :: l, b :: t, sm, nd, i, c, s, hc, hs => by
    have ha := sm a (List.mem_cons_self ..)
    unfold ov
    match i, hc, hs with
    | 0, hc, hs =>
      simp only [List.getElem?_cons_zero, Option.some.injEq] at hc hs
      subst hc hs
      have n1 : swp a ≠ a := by rw [swp_small ha]; omega
      rw [if_pos rfl, if_neg n1, if_pos rfl]
      exact ⟨rfl, rfl⟩
    | i + 1, hc, hs =>
      rw [List.getElem?_cons_succ] at hc hs
      have hm := List.mem_of_getElem? hc
      have hc2 := sm c (List.mem_cons_of_mem _ hm)
      have nac : a ≠ c := fun z => (List.nodup_cons.mp nd).1 (z ▸ hm)
      have r := ov_at (fun d hd => sm d (List.mem_cons_of_mem _ hd)) (List.nodup_cons.mp nd).2 hc hs
      rw [if_neg (by omega), if_neg (by rw [swp_small ha]; omega), if_neg (by rw [swp_small hc2]; omega), if_neg (by rw [swp_small hc2, swp_small ha]; omega)]
      exact r
theorem sds_at {l : List Nat} (g : GoodW l) {s : Nat} : s ∈ sds l ↔ ∃ (i c : Nat), l[i]? = some c ∧ (s = c ∨ s = swp c) := by
  constructor
  · intro h
    rcases sds_shape g h with z | z
    · obtain ⟨i, hi, e⟩ := List.getElem_of_mem z.2.2
      exact ⟨i, s, by rw [List.getElem?_eq_getElem hi, e], .inl rfl⟩
    · obtain ⟨i, hi, e⟩ := List.getElem_of_mem z.2.2
      refine ⟨i, s + 32, by rw [List.getElem?_eq_getElem hi, e], .inr ?_⟩
      rw [swp_small (by omega)]
      omega
  · rintro ⟨i, c, h, e | e⟩
    · rw [e]; exact sds_of_small (List.mem_of_getElem? h)
    · rw [e]; exact sds_swp g (sds_of_small (List.mem_of_getElem? h))
theorem low_sd {l : List Nat} (g : GoodW l) {s : Nat} (h : lwc s ∈ l) : s ∈ sds l := by
  have h2 := g.sm _ h
  unfold lwc at h h2
  split at h
  · next z =>
    have := sds_of_great g h
    rw [show s + 32 - 32 = s by omega] at this
    exact this
  · exact sds_of_small h
theorem swp_ne {s : Nat} (h : isLt s) : swp s ≠ s := by
  rcases h with h | h
  · rw [swp_small h]; omega
  · rw [swp_great h]; omega
section
variable {l t : List Nat} (g : GoodW l) (T : Trn l t)
include g T
theorem trn_sd {s : Nat} (h : s ∈ t) : s ∈ sds l := low_sd g (T.pm.mem_iff.mp (List.mem_map.mpr ⟨s, h, rfl⟩))
theorem trn_at {i c : Nat} (h : l[i]? = some c) : ∃ s, t[i]? = some s ∧ s ∈ sds l ∧ ov l t c = s ∧ ov l t (swp c) = swp s := by
  have hi : i < t.length := by
    rw [T.len]
    exact (List.getElem?_eq_some_iff.mp h).1
  have e : t[i]? = some t[i] := List.getElem?_eq_getElem hi
  exact ⟨t[i], e, trn_sd g T (List.getElem_mem hi), ov_at g.sm g.nd h e⟩
theorem ov_sd {s : Nat} (h : s ∈ sds l) : ov l t s ∈ sds l := by
  obtain ⟨i, c, hc, e⟩ := (sds_at g).mp h
  obtain ⟨x, _, hx, e1, e2⟩ := trn_at g T hc
  rcases e with rfl | rfl
  · rw [e1]; exact hx
  · rw [e2]; exact sds_swp g hx
theorem ov_swp {s : Nat} (h : s ∈ sds l) : ov l t (swp s) = swp (ov l t s) := by
  obtain ⟨i, c, hc, e⟩ := (sds_at g).mp h
  obtain ⟨x, _, hx, e1, e2⟩ := trn_at g T hc
  rcases e with rfl | rfl
  · rw [e1, e2]
  · rw [swp_swp (sds_lt g (sds_of_small (List.mem_of_getElem? hc))), e1, e2, swp_swp (sds_lt g hx)]
theorem ov_low {i c s : Nat} (hc : l[i]? = some c) (e : s = c ∨ s = swp c) : ∃ x, t[i]? = some x ∧ lwc (ov l t s) = lwc x := by
  obtain ⟨x, ex, hx, e1, e2⟩ := trn_at g T hc
  refine ⟨x, ex, ?_⟩
  rcases e with rfl | rfl
  · rw [e1]
  · rw [e2, lwc_swp (sds_lt g hx)]
theorem ov_inj {s u : Nat} (hs : s ∈ sds l) (hu : u ∈ sds l) (e : ov l t s = ov l t u) : s = u := by
  obtain ⟨i, c, hc, a⟩ := (sds_at g).mp hs
  obtain ⟨j, d, hd, b⟩ := (sds_at g).mp hu
  obtain ⟨x, ex, lx⟩ := ov_low g T hc a
  obtain ⟨y, ey, ly⟩ := ov_low g T hd b
  have nd : (t.map lwc).Nodup := T.pm.symm.nodup g.nd
  have hij : i = j := by
    have h1 : (t.map lwc)[i]? = some (lwc x) := by rw [List.getElem?_map, ex]; rfl
    have h2 : (t.map lwc)[j]? = some (lwc x) := by rw [List.getElem?_map, ey, ← lx, e, ly]; rfl
    obtain ⟨p1, q1⟩ := List.getElem?_eq_some_iff.mp h1
    obtain ⟨p2, q2⟩ := List.getElem?_eq_some_iff.mp h2
    exact (List.getElem_inj nd).mp (q1.trans q2.symm)
  subst hij
  rw [hc] at hd
  cases hd
  obtain ⟨z, _, hz, e1, e2⟩ := trn_at g T hc
  have nz := swp_ne (sds_lt g hz)
  rcases a with rfl | rfl <;> rcases b with rfl | rfl
  · rfl
  · rw [e1, e2] at e; exact absurd e.symm nz
  · rw [e1, e2] at e; exact absurd e nz
  · rfl
theorem ov_sur {u : Nat} (hu : u ∈ sds l) : ∃ s ∈ sds l, ov l t s = u := by
  obtain ⟨x, hx, e⟩ := List.mem_map.mp (T.pm.mem_iff.mpr (lwc_sd g hu))
  obtain ⟨i, hi, ei⟩ := List.getElem_of_mem hx
  have ex : t[i]? = some x := by rw [List.getElem?_eq_getElem hi, ei]
  have hl : i < l.length := by rw [← T.len]; exact hi
  have hc : l[i]? = some l[i] := List.getElem?_eq_getElem hl
  obtain ⟨e1, e2⟩ := ov_at g.sm g.nd hc ex
  have hl' : l[i] ∈ sds l := sds_of_small (List.getElem_mem hl)
  rcases same_wall g (trn_sd g T hx) hu e with z | z
  · exact ⟨l[i], hl', e1.trans z.symm⟩
  · exact ⟨swp l[i], sds_swp g hl', e2.trans z.symm⟩
end
theorem byWT_ext {l A B : List Nat} (g : GoodW l) (h : ∀ u ∈ sds l, u ∈ A ↔ u ∈ B) : byWT l A = byWT l B := by
  unfold byWT
  rw [List.flatMap_def, List.flatMap_def]
  congr 1
  refine List.map_congr_left fun c hc => List.filter_congr fun e he => ?_
  rw [Bool.eq_iff_iff, decide_eq_true_eq, decide_eq_true_eq]
  refine h e ?_
  rcases List.mem_cons.mp he with z | z
  · rw [z]; exact sds_swp g (sds_of_small hc)
  · rw [List.mem_singleton.mp z]; exact sds_of_small hc
/-- what sides go over into, by walls -/
def imL (l t r : List Nat) : List Nat := byWT l (r.map (ov l t))
section
variable {l t : List Nat} (g : GoodW l) (T : Trn l t)
include g T
theorem im_mem {r : List Nat} (hr : ∀ s ∈ r, s ∈ sds l) {u : Nat} : u ∈ imL l t r ↔ ∃ s ∈ r, ov l t s = u := by
  unfold imL
  rw [byWT_mem g, List.mem_map]
  exact ⟨fun h => h.2, fun ⟨s, hs, e⟩ => ⟨e ▸ ov_sd g T (hr s hs), s, hs, e⟩⟩
theorem im_ov {r : List Nat} (hr : ∀ s ∈ r, s ∈ sds l) {s : Nat} (hs : s ∈ sds l) : ov l t s ∈ imL l t r ↔ s ∈ r := by
  rw [im_mem g T hr]
  exact ⟨fun ⟨u, hu, e⟩ => ov_inj g T (hr u hu) hs e ▸ hu, fun h => ⟨s, h, rfl⟩⟩
theorem im_sd {r : List Nat} {u : Nat} (h : u ∈ imL l t r) : u ∈ sds l := ((byWT_mem g).mp h).1
end
section
variable {l : List Nat} (g : GoodW l) {bs : List (List Nat)} (hb : ∀ b ∈ bs, isBar l b = true) {fo : Nat → List Nat} (hf : ∀ s ∈ sds l, ∀ t, t ∈ fo s ↔ Frc (adjOf bs) s t)
include g hb
theorem rms_sd {r : List Nat} (hr : r ∈ rms l bs) : ∀ s ∈ r, s ∈ sds l := fun s hs => by
  obtain ⟨p, rfl, _⟩ := (rms_mem g hb r).mp hr
  exact rm_asc g hs
theorem rms_or {r : List Nat} (hr : r ∈ rms l bs) {s : Nat} (hs : s ∈ sds l) : s ∈ r ∨ swp s ∈ r := by
  obtain ⟨p, rfl, _⟩ := (rms_mem g hb r).mp hr
  rw [rm_mem g hs, rm_mem g (sds_swp g hs), val_swp (sds_lt g hs)]
  cases val p s <;> simp
theorem rms_ext {r q : List Nat} (hr : r ∈ rms l bs) (hq : q ∈ rms l bs) (h : ∀ s ∈ sds l, s ∈ r → s ∈ q) : r = q := by
  obtain ⟨p, rfl, _⟩ := (rms_mem g hb r).mp hr
  obtain ⟨p', rfl, _⟩ := (rms_mem g hb q).mp hq
  unfold rmOf
  refine List.map_congr_left fun c hc => ?_
  have h1 := h c (sds_of_small hc)
  have h2 := h (swp c) (sds_swp g (sds_of_small hc))
  rw [rm_mem g (sds_of_small hc), rm_mem g (sds_of_small hc)] at h1
  rw [rm_mem g (sds_swp g (sds_of_small hc)), rm_mem g (sds_swp g (sds_of_small hc)), val_swp (sds_lt g (sds_of_small hc)), val_swp (sds_lt g (sds_of_small hc))] at h2
  have hv : ∀ p : Nat → Bool, val p c = p c := fun p => by unfold val; rw [if_neg (by have := g.sm c hc; omega)]
  rw [hv, hv] at h1 h2
  cases e1 : p c <;> cases e2 : p' c <;> simp_all
include hf
theorem rms_frc {r : List Nat} (hr : r ∈ rms l bs) {s u : Nat} (hs : s ∈ r) (hu : u ∈ fo s) : u ∈ r := by
  have sd := rms_sd g hb hr s hs
  obtain ⟨p, rfl, sp⟩ := (rms_mem g hb r).mp hr
  have z := (hf s sd u).mp hu
  have v := Sat.frc g hb sp ((rm_mem g sd).mp hs) z
  exact (rm_mem g (Frc.mem g hb sd z)).mpr v
variable (ok : Okv l bs) (nf : ∀ s ∈ sds l, fo s = byWT l (fo s)) {t : List Nat} (T : Trn l t)
include ok T
/-- what keeps the forcing keeps the rooms -/
theorem keep_rooms (kf : ∀ s ∈ sds l, byWT l ((fo s).map (ov l t)) = fo (ov l t s)) {r : List Nat} (hr : r ∈ rms l bs) : imL l t r ∈ rms l bs := by
  have sd := rms_sd g hb hr
  have clo : Clo l bs (r.map (ov l t)) := by
    refine ⟨fun u hu => ?_, fun u hu v hv => ?_, fun u hu hn => ?_⟩
    · obtain ⟨s, hs, rfl⟩ := List.mem_map.mp hu
      exact ov_sd g T (sd s hs)
    · obtain ⟨s, hs, rfl⟩ := List.mem_map.mp hu
      have z : v ∈ fo (ov l t s) := (hf _ (ov_sd g T (sd s hs)) v).mpr (Frc.refl.step hv)
      rw [← kf s (sd s hs)] at z
      obtain ⟨w, hw, rfl⟩ := List.mem_map.mp ((byWT_mem g).mp z).2
      exact List.mem_map.mpr ⟨w, rms_frc g hb hf hr hs hw, rfl⟩
    · obtain ⟨s, hs, rfl⟩ := List.mem_map.mp hu
      rw [← ov_swp g T (sd s hs)] at hn
      obtain ⟨w, hw, e⟩ := List.mem_map.mp hn
      have := ov_inj g T (sd w hw) (sds_swp g (sd s hs)) e
      exact room_one g hb hf hr (sd s hs) hs (this ▸ hw)
  have full : ∀ c ∈ l, c ∈ r.map (ov l t) ∨ upc c ∈ r.map (ov l t) := fun c hc => by
    obtain ⟨s, hs, e⟩ := ov_sur g T (sds_of_small hc)
    rcases rms_or g hb hr hs with z | z
    · exact .inl (List.mem_map.mpr ⟨s, z, e⟩)
    · refine .inr (List.mem_map.mpr ⟨swp s, z, ?_⟩)
      rw [ov_swp g T hs, e, swp_small (g.sm c hc), upc_small (g.sm c hc)]
  obtain ⟨e1, e2⟩ := clo_room g hb hf ok clo full
  unfold imL
  rw [e1]
  exact e2
omit hf ok in
theorem im_inj {r q : List Nat} (hr : r ∈ rms l bs) (hq : q ∈ rms l bs) (e : imL l t r = imL l t q) : r = q :=
  rms_ext g hb hr hq fun s hs h => (im_ov g T (rms_sd g hb hq) hs).mp (e ▸ (im_ov g T (rms_sd g hb hr) hs).mpr h)
omit hf ok in
/-- then every room is one that is gone over into -/
theorem im_sur (kr : ∀ r ∈ rms l bs, imL l t r ∈ rms l bs) : ((rms l bs).map (imL l t)).Perm (rms l bs) := by
  have nd : ((rms l bs).map (imL l t)).Nodup := by
    refine List.pairwise_map.mpr ?_
    exact List.Pairwise.imp_of_mem (fun {a b} ha hb' ne e => ne (im_inj g hb T ha hb' e)) (rms_nd g)
  refine (List.perm_ext_iff_of_nodup nd (rms_nd g)).mpr fun x => ⟨fun h => ?_, fun h => Decidable.byContradiction fun hn => ?_⟩
  · obtain ⟨r, hr, rfl⟩ := List.mem_map.mp h
    exact kr r hr
  · have n2 : (x :: (rms l bs).map (imL l t)).Nodup := List.nodup_cons.mpr ⟨hn, nd⟩
    have := n2.length_le_of_subset (l₂ := rms l bs) fun y hy => by
      rcases List.mem_cons.mp hy with z | z
      · rw [z]; exact h
      · obtain ⟨r, hr, rfl⟩ := List.mem_map.mp z
        exact kr r hr
    rw [List.length_cons, List.length_map] at this
    omega
include nf
/-- what keeps the rooms keeps the forcing -/
theorem keep_forcing (kr : ∀ r ∈ rms l bs, imL l t r ∈ rms l bs) {s : Nat} (hs : s ∈ sds l) : byWT l ((fo s).map (ov l t)) = fo (ov l t s) := by
  have hos := ov_sd g T hs
  rw [nf _ hos]
  refine byWT_ext g fun u hu => ?_
  obtain ⟨v, hv, rfl⟩ := ov_sur g T hu
  have one : ∀ {a b : Nat}, a ∈ sds l → b ∈ sds l → (b ∈ fo a ↔ ∀ r ∈ rms l bs, a ∈ r → b ∈ r) := fun {a b} ha hb' => by
    refine ⟨fun h r hr h1 => rms_frc g hb hf hr h1 h, fun h => ?_⟩
    obtain ⟨z, hz, haz⟩ := side_room g hb hf ok ha
    have hP : ∀ c ∈ [a], c ∈ sds l := fun c hc => by rw [List.mem_singleton.mp hc]; exact ha
    have := (in_all g hb hf ok hP hz (fun c hc => by rw [List.mem_singleton.mp hc]; exact haz) hb').mp fun r hr hi => h r hr (hi a (List.mem_singleton.mpr rfl))
    obtain ⟨c, hc, k⟩ := (allFo_mem g hb hf hP).mp this
    rw [List.mem_singleton.mp hc] at k
    exact (hf a ha b).mpr k
  rw [one hos hu]
  constructor
  · intro h r' hr' h1
    obtain ⟨w, hw, e⟩ := List.mem_map.mp h
    obtain ⟨r, hr, rfl⟩ := List.mem_map.mp ((im_sur g hb T kr).mem_iff.mpr hr')
    have sd := rms_sd g hb hr
    have hwv := ov_inj g T (Frc.mem g hb hs ((hf s hs w).mp hw)) hv e
    subst hwv
    exact (im_ov g T sd hv).mpr ((one hs hv).mp hw r hr ((im_ov g T sd hs).mp h1))
  · intro h
    refine List.mem_map.mpr ⟨v, (one hs hv).mpr fun r hr h1 => ?_, rfl⟩
    have sd := rms_sd g hb hr
    exact (im_ov g T sd hv).mp (h _ (kr r hr) ((im_ov g T sd hs).mpr h1))
end
theorem FoOk.nf {l : List Nat} (g : GoodW l) {adj : Nat → List Nat} {L : List Nat} {fo : Nat → List Nat} (h : FoOk l adj L fo) {s : Nat} (hs : s ∈ L) : fo s = byWT l (fo s) := by
  obtain ⟨rs, _, _, e⟩ := h s hs
  rw [e]
  show (l.flatMap fun c => [swp c, c].filter (inK (ahK rs))) = l.flatMap fun c => [swp c, c].filter fun e => decide (e ∈ byW l (ahK rs))
  rw [List.flatMap_def, List.flatMap_def]
  congr 1
  refine List.map_congr_left fun c hc => List.filter_congr fun u hu => ?_
  have hus : u ∈ sds l := by
    rcases List.mem_cons.mp hu with z | z
    · rw [z]; exact sds_swp g (sds_of_small hc)
    · rw [List.mem_singleton.mp z]; exact sds_of_small hc
  rw [Bool.eq_iff_iff, decide_eq_true_eq]
  exact ⟨fun z => byW_of g hus z, fun z => (byW_mem g z).2⟩
/-- a turn of the hall -/
def TurnOk (l : List Nat) (bs : List (List Nat)) (t : List Nat) : Prop := Trn l t ∧ ∀ r ∈ rms l bs, imL l t r ∈ rms l bs
end NC
namespace NC
open PySem PySem.Spec PyProof.Rows L2
abbrev sLMix : Stmt := topS 82
abbrev sLByS : Stmt := topS 93
abbrev nLMix : List Str := ["_law_d", "_law_some", "_law_left", "_law_one"]
theorem scLMix : FnScope nLMix ["_law_d", "_law_some"] (defScope sLMix) := ⟨rfl, rfl, rfl, by decide +kernel, rfl, by decide +kernel, by decide +kernel⟩
theorem scLByS : FnScope ["_law_sides", "_law_found", "_law_sign", "_law_side"] ["_law_sides"] (defScope sLByS) := ⟨rfl, rfl, rfl, by decide +kernel, rfl, by decide +kernel, by decide +kernel⟩
theorem ds_over {d p : Addr} {H H' : Hp} {o : HO} (D : Dr H d) (u : SmD d H H') (D' : Dr H' d) (np : H p = none) : SmD d H (upd H' p o) ∧ Dr (upd H' p o) d := by
  have nd := D.ne np
  obtain ⟨c0, hc0⟩ := D.head
  obtain ⟨ns, hcell⟩ := D.cell hc0
  have nc : p ≠ c0 := Ne.symm (ne_of_none hcell np)
  refine ⟨⟨fun b o' nb hb => ?_, fun c hc => (u.2 c hc).upd nd⟩, D'.upd (u.2 _ hc0) nd nc⟩
  rw [upd_ne (ne_of_none hb np)]
  exact u.1 b o' nb hb
theorem erase_perm {α : Type} : ∀ (L : List α) (j : Nat) (h : j < L.length), (L[j] :: L.eraseIdx j).Perm L
  | a :: r, 0, _ => List.Perm.refl _
  | a :: r, j + 1, h => by
    have hj : j < r.length := by rw [List.length_cons] at h; omega
    have ih := erase_perm r j hj
    show (r[j] :: a :: r.eraseIdx j).Perm (a :: r)
    exact (List.Perm.swap a r[j] (r.eraseIdx j)).trans (ih.cons a)
theorem perm_pop {α : Type} {acc L xs : List α} {j : Nat} {v : α} (h : (acc ++ L).Perm xs) (hj : L[j]? = some v) : ((acc ++ [v]) ++ L.eraseIdx j).Perm xs := by
  refine List.Perm.trans ?_ h
  rw [List.append_assoc]
  refine List.Perm.append_left acc ?_
  obtain ⟨hlt, rfl⟩ := List.getElem?_eq_some_iff.mp hj
  show (L[j] :: L.eraseIdx j).Perm L
  exact erase_perm L j hlt
section
variable {P : Program} {w : World} {K : PySem.W.Frag} {mg : Str → Option Value} {base : Heap}
def spMixed : Sp := fun vs H Q _ => ∃ d a, ∃ xs : List V, vs = [.ref d, .ref a] ∧ Dr H d ∧ a ≠ d ∧ H a = some (.lst xs) ∧ xs.length ≤ 100 ∧ ∀ H' q ys, SmD d H H' → Dr H' d → H q = none → H' q = some (.lst ys) → ys.Perm xs → Q (.ref q) H'
def rLenK (K : PySem.W.Frag) : List V → Hp → VK → Prop := fun xs H Q => ∃ p ys, xs = [V.ref p] ∧ (SqL K H p ys ∨ SqT K H p ys) ∧ Q (V.int (ys.length : Nat)) H
set_option maxHeartbeats 2000000 in
theorem ok_mixed {f fD : Addr} {fd dD : FuncData} {k : Nat} (B : BM mg) (D : DF K mg "_law_draw" sDraw ["_law_d", "_law_many"] fD dD) (F : Fun K "_law_mixed" "_law_mixed" sLMix f fd) : FnOk P w K mg base CX0 (k + 2) f fd ["_law_d", "_law_some"] spMixed := by
  have GD : FnOk P w K mg base CX0 (k + 1) fD dD ["_law_d", "_law_many"] spDraw := ok_draw B D.F
  refine F.ok scLMix (fun vs H Q E h => ?_) (fun cdv A outer st H vs Q E hr h => ?_)
  · obtain ⟨d, a, xs, rfl, _⟩ := h
    rfl
  · obtain ⟨d, a, xs, rfl, hD, nad, ea, hl, q⟩ := h
    have nd := scLMix.nd
    refine ⟨_, pss_cons (ps_set (i := 2) nd rfl (.inr rfl) (pe_callTy call_list_of (by rfl) B.list (by decide +kernel) (pa_cons (pv 1) pa_nil)))
      (pss_one (ps_ret (pe_lc (own := [("_law_one", 3)]) (g := gName 3) (tt := tYes) (te := tBM K "list" rPopAt (tVar 2) (tCons (tCall spDraw [] E0 (tCons (tVar 0) (tCons (tCB (rLenK K) (tCons (tVar 2) tNil)) tNil))) tNil)) rfl nd (pi_list (pv 1)) (blkOk_by (N := nLMix) (sc := defScope sLMix) (by decide +kernel)) (fun _ _ _ _ _ => pg_name (i := 3) nd rfl (Or.inl rfl)) (fun _ _ _ _ _ => pts_nil)
        (fun _ _ _ _ _ => pe_bm PySem.F.plainAttrs_list PySem.F.slot_list_pop PySem.F.type_list_pop mt_popAt (pv 2) (pa_cons (pe_call GD hr rfl D.g D.F.kp D.b .nil pass0 (pa_cons (pv 0) (pa_cons (pe_callB call_len_seq (by rfl) B.len PySem.boot_len (pa_cons (pv 2) pa_nil)) pa_nil))) pa_nil))))), ?_⟩
    refine ⟨_, rfl, a, _, rfl, .inl (SqL.of ea), fun Lf nL => ?_⟩
    have nLd := hD.ne nL
    have s1 : Same H (upd H Lf (.lst xs)) := same_upd nL
    refine ⟨_, rfl, a, rfl, ⟨_, SqL.of (s1 _ _ ea)⟩, fun Da na => ?_⟩
    have nDL : Da ≠ Lf := Ne.symm (ne_of_none upd_same na)
    have na0 : H Da = none := L2.Same.free s1 na
    have wk := walk_list (K := K) (a := a) (xs := xs)
    refine lc_it wk (fun i H' => SmD d H H' ∧ Dr H' d ∧ ∃ acc left, H' Da = some (.lst acc) ∧ H' Lf = some (.lst left) ∧ (acc ++ left).Perm xs ∧ acc.length = i) ⟨SmD.of (sm_upd s1 na), hD.same (sm_upd s1 na), [], xs, upd_same, by rw [upd_ne (Ne.symm nDL), upd_same], List.Perm.refl _, rfl⟩ (fun i H' _ h => SqL.of (h.1.1 _ _ nad ea)) ?_ ?_
    · rintro i v G1 G2 hi ⟨u1, D1, acc, left, e1, e2, pm, al⟩ ⟨rfl, hx⟩
      have ll : acc.length + left.length = xs.length := by
        have := pm.length_eq
        rw [List.length_append] at this
        exact this
      refine ⟨rfl, yes_i ⟨_, rfl, .inl ⟨rfl, _, SqL.of e2⟩, _, rfl, _, rfl, Lf, _, rfl, .inl (SqL.of e2), d, _, rfl, D1, by omega, by omega, fun G3 z u3 D3 z0 z1 => ?_⟩⟩
      have e1' := u3.1 _ _ (hD.ne na0) e1
      have e2' := u3.1 _ _ nLd e2
      have hk : seqIndex? z left.length = some z.toNat := seqIndex_of z0 z1
      have hlt : z.toNat < left.length := by omega
      refine ⟨Lf, left, z, z.toNat, left[z.toNat], rfl, rfl, e2', by omega, by omega, hk, List.getElem?_eq_getElem hlt, ?_⟩
      obtain ⟨u4, D4⟩ := ds_over (o := .lst (left.eraseIdx z.toNat)) hD (u1.trans u3) D3 nL
      refine ⟨acc, (by rw [upd_ne nDL]; exact e1'), by rw [sizeLine_eq]; omega, ?_⟩
      obtain ⟨u5, D5⟩ := ds_over (o := .lst (acc ++ [left[z.toNat]])) hD u4 D4 na0
      refine ⟨u5, D5, acc ++ [left[z.toNat]], left.eraseIdx z.toNat, upd_same, by rw [upd_ne (Ne.symm nDL), upd_same], perm_pop pm (List.getElem?_eq_getElem hlt), by rw [List.length_append, al]; rfl⟩
    · rintro G1 ⟨u1, D1, acc, left, e1, e2, pm, al⟩
      have : left = [] := by
        have := pm.length_eq
        rw [List.length_append] at this
        exact List.eq_nil_of_length_eq_zero (by omega)
      rw [this, List.append_nil] at pm
      exact q G1 Da acc u1 D1 na0 e1 pm
end
theorem str1_dec (a b : Nat) : decide (V.str ⟨#[a]⟩ = V.str ⟨#[b]⟩) = decide (a = b) := by
  rw [Bool.eq_iff_iff, decide_eq_true_eq, decide_eq_true_eq]
  constructor
  · intro h
    have : (⟨#[a]⟩ : Str) = ⟨#[b]⟩ := by injection h
    have := congrArg Str.cps this
    simpa using this
  · intro h
    rw [h]
section
variable {P : Program} {w : World} {K : PySem.W.Frag} {mg : Str → Option Value} {base : Heap}
def spByS : Sp := fun vs H Q _ => ∃ X, vs = [.str (tx X)] ∧ (∀ c ∈ X, c < 128) ∧ X.length ≤ 100 ∧ ∀ H', Same H H' → Q (.str (tx (byS X))) H'
theorem byS_take (X : List Nat) {i c : Nat} (h : ltrs'[i]? = some c) : ((ltrs'.take (i + 1)).flatMap fun c => X.filter fun s => decide (lwc s = c)) = ((ltrs'.take i).flatMap fun c => X.filter fun s => decide (lwc s = c)) ++ X.filter fun s => decide (lwc s = c) := by
  rw [List.take_add_one, h, List.flatMap_append]
  simp
theorem flatF_len (X : List Nat) (L : List Nat) : (L.flatMap fun c => X.filter fun s => decide (lwc s = c)).length ≤ X.length * L.length := by
  induction L with
  | nil => simp
  | cons c r ih =>
    rw [List.flatMap_cons, List.length_append, List.length_cons, Nat.mul_succ]
    have := List.length_filter_le (fun s => decide (lwc s = c)) X
    omega
set_option maxHeartbeats 1000000 in
theorem ok_byS {f fL : Addr} {fd dL : FuncData} {k : Nat} (F : Fun K "_law_by_shuts" "_law_by_shuts" sLByS f fd) (Lt : DF K mg "_law_letters" sLetters [] fL dL) : FnOk P w K mg base CX0 (k + 2) f fd ["_law_sides"] spByS := by
  have GL := ok_letters (P := P) (w := w) (mg := mg) (base := base) (k := k) Lt.F
  refine F.ok scLByS (fun vs H Q E h => ?_) (fun cdv A0 outer st H vs Q E hr h => ?_)
  · obtain ⟨X, rfl, _⟩ := h
    rfl
  · obtain ⟨X, rfl, xa, xn, q⟩ := h
    have nd := scLByS.nd
    refine ⟨_, pss_cons (ps_set (i := 1) nd rfl (.inl rfl) pe_str)
      (pss_cons (ps_for PassesOwn.never rfl (pi_str (pe_call0 GL hr rfl Lt.g Lt.F.kp Lt.b .nil pass0)) (pg_name (i := 2) nd rfl (.inr rfl))
        (pss_one (ps_set (i := 1) nd rfl (.inl rfl) (pe_op op_add_str (pv 1) (pe_join pe_str (pe_lc (own := [("_law_side", 3)]) (g := gName 3) (tt := tTest (tOp rEq (tLow (tVar 3)) (tVar 2))) rfl nd (pi_str (pv 0)) (blkOk_by (N := ["_law_sides", "_law_found", "_law_sign", "_law_side"]) (sc := defScope sLByS) (by decide +kernel)) (fun _ _ _ _ _ => pg_name (i := 3) nd rfl (Or.inl rfl))
          (fun _ _ _ _ _ => pts_one (pt_cmpR op_eq (pe_lower (pv 3)) (pv 2) (nomark _))) (fun _ _ _ _ _ => pv 3)))))))
      (pss_one (ps_ret (pv 1)))), ?_⟩
    refine ⟨rfl, _, rfl, ?_⟩
    have lz : (tx ltrs).cps.size = 26 := by rw [show (tx ltrs).cps.size = ltrs.length from tx_len _]; rfl
    have wk := walk_str (z := tx ltrs)
    rw [lz] at wk
    refine for_it wk (fun i σ H' => ∃ (y2 y3 : Option V), σ = [some (.str (tx X)), some (.str (tx ((ltrs'.take i).flatMap fun c => X.filter fun s => decide (lwc s = c)))), y2, y3] ∧ Same H H') ⟨_, _, by rw [str00]; rfl, L2.Same.refl _⟩ (fun _ _ _ _ _ => trivial) ?_ ?_
    · rintro i v σ H1 H2 hi ⟨y2, y3, rfl, s1⟩ ⟨rfl, c, hc, rfl⟩
      have hc : ltrs'[i]? = some c := by
        rw [← Array.getElem?_toList, tx_list] at hc
        exact hc
      refine ⟨_, rfl, ⟨_, rfl⟩, _, rfl, tx X, rfl, fun Da na => ?_⟩
      have wkx := walk_str (z := tx X)
      rw [show (tx X).cps.size = X.length from tx_len _] at wkx
      refine lc_it wkx (fun j H' => Same H2 H' ∧ H' Da = some (.lst ((((X.take j).filter fun s => decide (lwc s = c)).map sg).map V.str))) ⟨same_upd na, upd_same⟩ (fun _ _ _ _ => trivial) ?_ ?_
      · rintro j v G1 G2 hj ⟨u1, e1⟩ ⟨rfl, e, he, rfl⟩
        have he : X[j]? = some e := by
          rw [← Array.getElem?_toList, tx_list] at he
          exact he
        have ea := xa e (List.mem_of_getElem? he)
        have tk : X.take (j + 1) = X.take j ++ [e] := by rw [List.take_add_one, he]; rfl
        have fl : ((X.take j).filter fun s => decide (lwc s = c)).length ≤ 100 := Nat.le_trans (List.length_filter_le _ _) (by rw [List.length_take]; omega)
        refine ⟨rfl, _, rfl, ⟨_, rfl⟩, _, rfl, rfl, by show 1 ≤ 5592405; decide, ?_⟩
        rw [low_sg ea]
        refine ⟨_, rfl, rfl, _, rfl, ?_⟩
        rw [str1_dec]
        refine ite2 (fun t => ⟨_, rfl, _, e1, by rw [List.length_map, List.length_map, sizeLine_eq]; omega, sm_over u1 na, ?_⟩) (fun t => ⟨u1, ?_⟩)
        · rw [upd_same, tk, List.filter_append, List.filter_cons, if_pos t]
          simp
          rfl
        · rw [e1, tk, List.filter_append, List.filter_cons, if_neg t]
          simp
      · rintro G1 ⟨u1, e1⟩
        rw [List.take_length] at e1
        have fl : (X.filter fun s => decide (lwc s = c)).length ≤ 100 := Nat.le_trans (List.length_filter_le _ _) xn
        have fl2 := flatF_len X (ltrs'.take i)
        have fl3 : (ltrs'.take i).length ≤ 26 := by rw [List.length_take]; exact Nat.min_le_right _ _
        have fl4 : X.length * (ltrs'.take i).length ≤ 100 * 26 := Nat.mul_le_mul xn fl3
        refine ⟨_, _, (X.filter fun s => decide (lwc s = c)).map sg, rfl, rfl, .inl (SqL.of e1), ?_, ?_⟩
        · rw [sum_sgs, show (Str.ofString "").length = 0 by decide +kernel]
          omega
        · rw [join_sg]
          refine ⟨_, _, rfl, rfl, by rw [tx_len, tx_len, sizeLine_eq]; omega, some (.str ⟨#[c]⟩), y3, ?_, sm_trans s1 u1⟩
          rw [tx_app, byS_take X hc]
          rfl
    · rintro σ H1 ⟨y2, y3, rfl, s1⟩
      exact ⟨_, rfl, q H1 s1⟩
end
end NC
namespace NC
open PySem PySem.Spec PyProof.Rows L2
abbrev sGoesO : Stmt := topS 41
abbrev sSidesO : Stmt := topS 42
abbrev nGoesO : List Str := ["walls", "turn", "into", "wall", "side"]
theorem scGoesO : FnScope nGoesO ["walls", "turn"] (defScope sGoesO) := ⟨rfl, rfl, rfl, by decide +kernel, rfl, by decide +kernel, by decide +kernel⟩
theorem scSidesO : FnScope ["into", "sides", "side"] ["into", "sides"] (defScope sSidesO) := ⟨rfl, rfl, rfl, by decide +kernel, rfl, by decide +kernel, by decide +kernel⟩
/-- the sides, wall by wall, as goes_over puts them -/
def kS (l : List Nat) : List Nat := l.flatMap fun c => [c, swp c]
theorem kS_snoc {l : List Nat} {i c : Nat} (h : l[i]? = some c) : kS (l.take (i + 1)) = kS (l.take i) ++ [c, swp c] := by
  unfold kS
  rw [List.take_add_one, h, List.flatMap_append]
  simp
theorem kS_len (l : List Nat) : (kS l).length = 2 * l.length := by
  unfold kS
  induction l with
  | nil => rfl
  | cons x r ih => rw [List.flatMap_cons, List.length_append, ih, List.length_cons, List.length_cons, List.length_cons]; simp; omega
theorem kS_mem {l : List Nat} (g : GoodW l) {s : Nat} : s ∈ kS l ↔ s ∈ sds l := by
  unfold kS
  rw [List.mem_flatMap, sds_at g]
  constructor
  · rintro ⟨c, hc, h⟩
    obtain ⟨i, hi⟩ := List.getElem?_of_mem hc
    refine ⟨i, c, hi, ?_⟩
    rcases List.mem_cons.mp h with z | z
    · exact .inl z
    · exact .inr (List.mem_singleton.mp z)
  · rintro ⟨i, c, hi, h⟩
    refine ⟨c, List.mem_of_getElem? hi, ?_⟩
    rcases h with z | z
    · rw [z]; exact List.mem_cons_self ..
    · rw [z]; exact List.mem_cons_of_mem _ (List.mem_singleton.mpr rfl)
theorem kS_new {l : List Nat} (g : GoodW l) {i c : Nat} (h : l[i]? = some c) : c ∉ kS (l.take i) ∧ swp c ∉ kS (l.take i) := by
  have hc := g.sm c (List.mem_of_getElem? h)
  have nin : ∀ d ∈ l.take i, d ≠ c := fun d hm e => take_new g.nd h (e ▸ hm)
  have one : ∀ s, s ∈ kS (l.take i) → ∃ d ∈ l.take i, s = d ∨ s = swp d := fun s hs => by
    unfold kS at hs
    obtain ⟨d, hd, z⟩ := List.mem_flatMap.mp hs
    refine ⟨d, hd, ?_⟩
    rcases List.mem_cons.mp z with z | z
    · exact .inl z
    · exact .inr (List.mem_singleton.mp z)
  constructor
  · intro z
    obtain ⟨d, hd, e | e⟩ := one c z
    · exact nin d hd e.symm
    · have hd' := g.sm d (List.mem_of_mem_take hd)
      rw [swp_small hd'] at e
      omega
  · intro z
    obtain ⟨d, hd, e | e⟩ := one (swp c) z
    · have hd' := g.sm d (List.mem_of_mem_take hd)
      rw [swp_small hc] at e
      omega
    · have hd' := g.sm d (List.mem_of_mem_take hd)
      rw [swp_small hc, swp_small hd'] at e
      exact nin d hd (by omega)
/-- the dict of what sides go over into -/
def ovK (l t : List Nat) : List (Key × V) := foK (kS l) fun s => [ov l t s]
theorem ovK_val {l t : List Nat} (g : GoodW l) {s : Nat} (h : s ∈ sds l) : valV (ovK l t) (Sum.inr (sg s)) = some (.str (sg (ov l t s))) := foK_val ((kS_mem g).mpr h)
section
variable {P : Program} {w : World} {K : PySem.W.Frag} {mg : Str → Option Value} {base : Heap}
def spGoesO : Sp := fun vs H Q _ => ∃ l t, vs = [.str (tx l), .str (tx t)] ∧ GoodW l ∧ t.length = l.length ∧ (∀ c ∈ t, c < 128) ∧ ∀ H' D, Same H H' → H D = none → H' D = some (.dK (ovK l t)) → Q (.ref D) H'
set_option maxHeartbeats 1000000 in
theorem ok_goesO {f fO : Addr} {fd fdO : FuncData} {k : Nat} (hz : mg "zip" = none) (O : DF K mg "other" sOther ["side"] fO fdO) (F : Fun K "goes_over" "goes_over" sGoesO f fd) : FnOk P w K mg base CX0 (k + 2) f fd ["walls", "turn"] spGoesO := by
  have GO : FnOk P w K mg base CX0 (k + 1) fO fdO ["side"] spOther := ok_other O.F
  refine F.ok scGoesO (fun vs H Q E h => ?_) (fun cdv A outer st H vs Q E hr h => ?_)
  · obtain ⟨l, t, rfl, _⟩ := h
    rfl
  · obtain ⟨l, t, rfl, g, hl, ha, q⟩ := h
    have nd := scGoesO.nd
    have hl12 := g.hi
    refine ⟨_, pss_cons (ps_set (i := 2) nd rfl (.inl rfl) pe_dnewK)
      (pss_cons (ps_for PassesOwn.never rfl (pi_zipS (by rfl) hz (pa_cons (pv 0) (pa_cons (pv 1) pa_nil))) (pg_tup rfl (pgs_cons (pg_name (i := 3) nd rfl (Or.inl rfl)) (pgs_cons (pg_name (i := 4) nd rfl (Or.inl rfl)) pgs_nil)))
        (pss_cons (ps_dput (hu_of hr) (pv 2) (pv 3) (pv 4) rfl)
        (pss_one (ps_dput (hu_of hr) (pv 2) (pe_call GO hr rfl O.g O.F.kp O.b .nil pass0 (pa_cons (pv 3) pa_nil)) (pe_call GO hr rfl O.g O.F.kp O.b .nil pass0 (pa_cons (pv 4) pa_nil)) rfl))))
      (pss_one (ps_ret (pv 2)))), ?_⟩
    refine fun p np => ?_
    have l1 : (tx l).cps.size = l.length := tx_len _
    have l2 : (tx t).cps.size = t.length := tx_len _
    refine ⟨_, rfl, _, rfl, tx l, tx t, rfl, ?_⟩
    refine for_it (walk_zipS (n := l.length) (by rw [l1, l2]; omega)) (fun i σ H' => ∃ (y3 y4 : Option V), σ = [some (.str (tx l)), some (.str (tx t)), some (.ref p), y3, y4] ∧ Same H H' ∧ H' p = some (.dK (foK (kS (l.take i)) fun s => [ov l t s]))) ⟨_, _, rfl, same_upd np, upd_same⟩ (fun _ _ _ _ _ => trivial) ?_ ?_
    · rintro i v σ H1 H2 hi ⟨y3, y4, rfl, s1, e1⟩ ⟨T, s, u, rfl, nT, rfl, ⟨c, hc, rfl⟩, ⟨e, he, rfl⟩⟩
      have hc : l[i]? = some c := by
        rw [← Array.getElem?_toList, tx_list] at hc
        exact hc
      have he : t[i]? = some e := by
        rw [← Array.getElem?_toList, tx_list] at he
        exact he
      obtain ⟨o1, o2⟩ := ov_at g.sm g.nd hc he
      obtain ⟨n1, n2⟩ := kS_new g hc
      have ca := g.asc c (List.mem_of_getElem? hc)
      have ea := ha e (List.mem_of_getElem? he)
      have npT : p ≠ T := ne_of_none e1 nT
      have kl : (kS (l.take i)).length ≤ 24 := by rw [kS_len, List.length_take]; omega
      have s2 : Same H (upd H1 T (.tup [.str ⟨#[c]⟩, .str ⟨#[e]⟩])) := sm_upd s1 nT
      have e2 : (upd H1 T (.tup [.str ⟨#[c]⟩, .str ⟨#[e]⟩])) p = some (.dK (foK (kS (l.take i)) fun s => [ov l t s])) := by rw [upd_ne npT]; exact e1
      refine ⟨T, _, rfl, SqT.of upd_same, rfl, _, _, rfl, _, _, rfl, rfl, ?_⟩
      generalize upd H1 T (.tup [.str ⟨#[c]⟩, .str ⟨#[e]⟩]) = H3 at s2 e2 ⊢
      refine ⟨_, rfl, _, rfl, _, rfl, p, _, rfl, DPut.k (k := Sum.inr (sg c)) e2 (by unfold foK; rw [List.length_map, sizeLine_eq]; omega), ?_⟩
      have e3 : (upd H3 p (.dK (putK (foK (kS (l.take i)) fun s => [ov l t s]) (Sum.inr (sg c)) (.str ⟨#[e]⟩)))) p = some (.dK (foK (kS (l.take i) ++ [c]) fun s => [ov l t s])) := by
        rw [upd_same, putK_new _ (foK_no n1), ← o1]
        unfold foK
        rw [List.map_append]
        rfl
      have s3 : Same H (upd H3 p (.dK (putK (foK (kS (l.take i)) fun s => [ov l t s]) (Sum.inr (sg c)) (.str ⟨#[e]⟩)))) := sm_over s2 np
      generalize upd H3 p (.dK (putK (foK (kS (l.take i)) fun s => [ov l t s]) (Sum.inr (sg c)) (.str ⟨#[e]⟩))) = H4 at e3 s3 ⊢
      refine ⟨_, rfl, e, rfl, ea, _, rfl, _, rfl, c, rfl, ca, p, _, rfl, DPut.k (k := Sum.inr (sg (swp c))) e3 (by unfold foK; rw [List.length_map, List.length_append, sizeLine_eq]; simp; omega), ?_⟩
      refine ⟨_, _, rfl, sm_over s3 np, ?_⟩
      have n3 : swp c ∉ kS (l.take i) ++ [c] := fun z => by
        rcases List.mem_append.mp z with z | z
        · exact n2 z
        · have := List.mem_singleton.mp z
          rw [swp_small (g.sm c (List.mem_of_getElem? hc))] at this
          have := g.sm c (List.mem_of_getElem? hc)
          omega
      rw [upd_same, putK_new _ (foK_no n3), ← o2, kS_snoc hc, show kS (l.take i) ++ [c, swp c] = (kS (l.take i) ++ [c]) ++ [swp c] by simp]
      unfold foK
      rw [List.map_append (l₁ := kS (l.take i) ++ [c])]
      rfl
    · rintro σ H1 ⟨y3, y4, rfl, s1, e1⟩
      rw [List.take_length] at e1
      exact ⟨_, rfl, q H1 p s1 np e1⟩
def spSidesO : Sp := fun vs H Q _ => ∃ D kvs S, ∃ h : Nat → Nat, vs = [.ref D, .str (tx S)] ∧ Rd H D (.dK kvs) ∧ (∀ s ∈ S, valV kvs (Sum.inr (sg s)) = some (.str (sg (h s)))) ∧ S.length ≤ 100 ∧ ∀ H', Same H H' → Q (.str (tx (S.map h))) H'
theorem rd_same {H H' : Hp} {D : Addr} {u : HO} (h : Rd H D u) (s : Same H H') : Rd H' D u := h.elim (fun z => .inl (s _ _ z)) fun ⟨o, z⟩ => .inr ⟨o, s _ _ z⟩
set_option maxHeartbeats 1000000 in
theorem ok_sidesO {f : Addr} {fd : FuncData} {k : Nat} (F : Fun K "sides_over" "sides_over" sSidesO f fd) : FnOk P w K mg base CX0 (k + 1) f fd ["into", "sides"] spSidesO := by
  refine F.ok scSidesO (fun vs H Q E h => ?_) (fun cdv A outer st H vs Q E hr h => ?_)
  · obtain ⟨D, kvs, S, h, rfl, _⟩ := h
    rfl
  · obtain ⟨D, kvs, S, h, rfl, hD, hv, hn, q⟩ := h
    have nd := scSidesO.nd
    refine ⟨_, pss_one (ps_ret (pe_join pe_str (pe_lc (own := [("side", 2)]) (g := gName 2) (tt := tYes) (te := tDGet (tVar 0) (tVar 2)) rfl nd (pi_str (pv 1)) (blkOk_by (N := ["into", "sides", "side"]) (sc := defScope sSidesO) (by decide +kernel)) (fun _ _ _ _ _ => pg_name (i := 2) nd rfl (Or.inl rfl)) (fun _ _ _ _ _ => pts_nil)
      (fun _ _ _ _ _ => pe_dget (hu_of hr) (pv 0) (pv 2) (fun _ _ => rfl))))), ?_⟩
    refine ⟨⟨_, rfl⟩, _, rfl, tx S, rfl, fun Da na => ?_⟩
    have lz : (tx S).cps.size = S.length := tx_len _
    have wk := walk_str (z := tx S)
    rw [lz] at wk
    refine lc_it wk (fun i H' => Same H H' ∧ H' Da = some (.lst ((((S.take i).map h).map sg).map V.str))) ⟨same_upd na, upd_same⟩ (fun _ _ _ _ => trivial) ?_ ?_
    · rintro i v H1 H2 hi ⟨s1, e1⟩ ⟨rfl, c, hc, rfl⟩
      have hc : S[i]? = some c := by
        rw [← Array.getElem?_toList, tx_list] at hc
        exact hc
      refine ⟨rfl, yes_i ⟨_, rfl, _, rfl, D, _, rfl, .inl ⟨kvs, Sum.inr (sg c), rd_same hD s1, rfl, (hv c (List.mem_of_getElem? hc)).symm⟩, _, e1, ?_, sm_over s1 na, ?_⟩⟩
      · rw [List.length_map, List.length_map, List.length_map, List.length_take, sizeLine_eq]
        omega
      · rw [upd_same, List.take_add_one, hc, List.map_append, List.map_append, List.map_append]
        rfl
    · rintro H1 ⟨s1, e1⟩
      rw [List.take_length] at e1
      refine ⟨_, _, (S.map h).map sg, rfl, rfl, .inl (SqL.of e1), ?_, ?_⟩
      · rw [sum_sgs, List.length_map, show (Str.ofString "").length = 0 by decide +kernel]
        omega
      · rw [join_sg]
        exact q _ s1
end
end NC
namespace NC
open PySem PySem.Spec PyProof.Rows L2
/-- one side of a wall at most, wall by wall -/
abbrev Ris (X : List Nat) : Prop := X.Pairwise fun a b => lwc a < lwc b
theorem ris_eq {A B : List Nat} (ha : Ris A) (hb : Ris B) (h : ∀ c, c ∈ A ↔ c ∈ B) : A = B := by
  have p : A.Perm B := (List.perm_ext_iff_of_nodup (ha.imp fun h e => by rw [e] at h; exact Nat.lt_irrefl _ h) (hb.imp fun h e => by rw [e] at h; exact Nat.lt_irrefl _ h)).mpr h
  exact p.eq_of_pairwise (fun x y _ _ h1 h2 => by omega) ha hb
theorem byWT_ris {l W : List Nat} (g : GoodW l) (one : ∀ c ∈ l, c ∈ W → swp c ∉ W) : Ris (byWT l W) := by
  unfold byWT Ris
  have lw : ∀ c ∈ l, ∀ x ∈ [swp c, c].filter (fun e => decide (e ∈ W)), lwc x = c := fun c hc x hx => by
    have h := (List.mem_filter.mp hx).1
    have hs := g.sm c hc
    rcases List.mem_cons.mp h with e | e
    · rw [e, lwc_swp (.inl hs)]; unfold lwc; rw [if_neg (by omega)]
    · rw [List.mem_singleton.mp e]; unfold lwc; rw [if_neg (by omega)]
  refine List.pairwise_flatMap.mpr ⟨fun c hc => ?_, ?_⟩
  · by_cases h1 : swp c ∈ W
    · have h2 : c ∉ W := fun z => one c hc z h1
      simp [h1, h2]
    · by_cases h2 : c ∈ W <;> simp [h1, h2]
  · refine List.Pairwise.imp_of_mem (fun {a b} ha hb h x hx y hy => ?_) g.rise
    rw [lw a ha x hx, lw b hb y hy]
    exact h
theorem byWT_self {l X : List Nat} (g : GoodW l) (h : ∀ s ∈ X, s ∈ sds l) (r : Ris X) : byWT l X = X := by
  refine ris_eq (byWT_ris g fun c hc h1 h2 => ?_) r fun c => ?_
  · have lt : isLt c := .inl (g.sm c hc)
    have : ∀ {a b : Nat}, a ∈ X → b ∈ X → lwc a = lwc b → a = b := fun {a b} ha hb e => by
      obtain ⟨i, hi⟩ := List.getElem?_of_mem ha
      obtain ⟨j, hj⟩ := List.getElem?_of_mem hb
      obtain ⟨i1, i2⟩ := List.getElem?_eq_some_iff.mp hi
      obtain ⟨j1, j2⟩ := List.getElem?_eq_some_iff.mp hj
      rcases Nat.lt_trichotomy i j with z | z | z
      · have := List.pairwise_iff_getElem.mp r i j i1 j1 z
        rw [i2, j2] at this
        omega
      · subst z
        rw [← i2, ← j2]
      · have := List.pairwise_iff_getElem.mp r j i j1 i1 z
        rw [i2, j2] at this
        omega
    exact swp_ne lt (this h2 h1 (lwc_swp lt))
  · rw [byWT_mem g]
    exact ⟨fun z => z.2, fun z => ⟨h c z, z⟩⟩
theorem one_of {α : Type} {L : List α} {a : α} (h : L.length ≤ 1) (m : a ∈ L) : L = [a] := by
  match L, h, m with
  | [b], _, m => rw [List.mem_singleton.mp m]
theorem flat_filter {α β : Type} {L : List α} {p : α → Bool} {f : α → List β} (h : ∀ c ∈ L, p c = false → f c = []) : L.flatMap f = (L.filter p).flatMap f := by
  induction L with
  | nil => rfl
  | cons a r ih =>
    have ih := ih fun c hc => h c (List.mem_cons_of_mem _ hc)
    rw [List.flatMap_cons, List.filter_cons, ih]
    by_cases e : p a = true
    · rw [if_pos e, List.flatMap_cons]
    · rw [if_neg e, h a (List.mem_cons_self ..) (by simpa using e), List.nil_append]
/-- by letters is by walls, where no wall is told twice -/
theorem byS_walls {l X : List Nat} (g : GoodW l) (h : ∀ s ∈ X, s ∈ sds l) (nd : (X.map lwc).Nodup) : byS X = byWT l X := by
  have fl : ∀ c, (X.filter fun s => decide (lwc s = c)).length ≤ 1 := fun c => by
    have n1 : ((X.filter fun s => decide (lwc s = c)).map lwc).Nodup := nd.sublist (List.Sublist.map lwc List.filter_sublist)
    have := n1.length_le_of_subset (l₂ := [c]) fun y hy => by
      obtain ⟨s, hs, rfl⟩ := List.mem_map.mp hy
      exact List.mem_singleton.mpr (of_decide_eq_true (List.mem_filter.mp hs).2)
    rw [List.length_map] at this
    exact this
  have el : ltrs'.filter (fun c => decide (c ∈ l)) = l := by
    refine rise_eq (ltrs_rise.sublist List.filter_sublist) g.rise fun c => ?_
    rw [List.mem_filter, decide_eq_true_eq]
    refine ⟨fun z => z.2, fun z => ⟨?_, z⟩⟩
    have := g.sm c z
    unfold ltrs'
    exact List.mem_map.mpr ⟨c - 97, List.mem_range.mpr (by omega), by omega⟩
  unfold byS byWT
  rw [flat_filter (p := fun c => decide (c ∈ l)) (fun c _ hn => ?_), el]
  · rw [List.flatMap_def, List.flatMap_def]
    congr 1
    refine List.map_congr_left fun c hc => ?_
    have hs := g.sm c hc
    have l1 : lwc c = c := by unfold lwc; rw [if_neg (by omega)]
    have l2 : lwc (swp c) = c := by rw [lwc_swp (.inl hs), l1]
    by_cases h1 : c ∈ X
    · have m1 : c ∈ X.filter fun s => decide (lwc s = c) := List.mem_filter.mpr ⟨h1, decide_eq_true l1⟩
      have e1 := one_of (fl c) m1
      have h2 : swp c ∉ X := fun z => by
        have : swp c ∈ X.filter fun s => decide (lwc s = c) := List.mem_filter.mpr ⟨z, decide_eq_true l2⟩
        rw [e1] at this
        exact swp_ne (.inl hs) (List.mem_singleton.mp this)
      rw [e1]
      simp [h1, h2]
    · by_cases h2 : swp c ∈ X
      · have m1 : swp c ∈ X.filter fun s => decide (lwc s = c) := List.mem_filter.mpr ⟨h2, decide_eq_true l2⟩
        rw [one_of (fl c) m1]
        simp [h1, h2]
      · have : (X.filter fun s => decide (lwc s = c)) = [] := List.filter_eq_nil_iff.mpr fun s hs' z => by
          have e := of_decide_eq_true z
          rcases same_wall g (sds_of_small hc) (h s hs') (by rw [l1, e]) with y | y
          · exact h1 (y ▸ hs')
          · exact h2 (y ▸ hs')
        rw [this]
        simp [h1, h2]
  · have hn : c ∉ l := by simpa using hn
    exact List.filter_eq_nil_iff.mpr fun s hs' z => hn (by rw [← of_decide_eq_true z]; exact lwc_sd g (h s hs'))
section
variable {l t : List Nat} (g : GoodW l) (T : Trn l t)
include g T
theorem ov_walls {s u : Nat} (hs : s ∈ sds l) (hu : u ∈ sds l) (e : lwc (ov l t s) = lwc (ov l t u)) : lwc s = lwc u := by
  rcases same_wall g (ov_sd g T hs) (ov_sd g T hu) e with z | z
  · rw [ov_inj g T hu hs z]
  · rw [← ov_swp g T hs] at z
    rw [ov_inj g T hu (sds_swp g hs) z, lwc_swp (sds_lt g hs)]
/-- the law's going over is the program's -/
theorem im_is {X : List Nat} (h : ∀ s ∈ X, s ∈ sds l) (nd : (X.map lwc).Nodup) : byS (X.map (ov l t)) = imL l t X := by
  refine byS_walls g (fun s hs => ?_) ?_
  · obtain ⟨u, hu, rfl⟩ := List.mem_map.mp hs
    exact ov_sd g T (h u hu)
  · rw [List.map_map]
    refine List.pairwise_map.mpr ?_
    exact List.Pairwise.imp_of_mem (fun {a b} ha hb ne e => ne (ov_walls g T (h a ha) (h b hb) e)) (List.pairwise_map.mp nd)
end
end NC
namespace NC
open PySem PySem.Spec PyProof.Rows L2
abbrev sLImg : Stmt := topS 92
abbrev sLSome : Stmt := topS 94
abbrev nLImg : List Str := ["_law_shuts_here", "_law_turn", "_law_sides", "_law_found", "_law_shut", "_law_side"]
theorem scLImg : FnScope nLImg ["_law_shuts_here", "_law_turn", "_law_sides"] (defScope sLImg) := ⟨rfl, rfl, rfl, by decide +kernel, rfl, by decide +kernel, by decide +kernel⟩
theorem scLSome : FnScope ["_law_d", "_law_shuts_here", "_law_side"] ["_law_d", "_law_shuts_here"] (defScope sLSome) := ⟨rfl, rfl, rfl, by decide +kernel, rfl, by decide +kernel, by decide +kernel⟩
section
variable {P : Program} {w : World} {K : PySem.W.Frag} {mg : Str → Option Value} {base : Heap}
def spBySL (K : PySem.W.Frag) : Sp := fun vs H Q _ => ∃ a X, vs = [.ref a] ∧ SqL K H a ((X.map sg).map V.str) ∧ (∀ c ∈ X, c < 128) ∧ X.length ≤ 100 ∧ ∀ H', Same H H' → Q (.str (tx (byS X))) H'
set_option maxHeartbeats 1000000 in
theorem ok_bySL {f fL : Addr} {fd dL : FuncData} {k : Nat} (F : Fun K "_law_by_shuts" "_law_by_shuts" sLByS f fd) (Lt : DF K mg "_law_letters" sLetters [] fL dL) : FnOk P w K mg base CX0 (k + 2) f fd ["_law_sides"] (spBySL K) := by
  have GL := ok_letters (P := P) (w := w) (mg := mg) (base := base) (k := k) Lt.F
  refine F.ok scLByS (fun vs H Q E h => ?_) (fun cdv A0 outer st H vs Q E hr h => ?_)
  · obtain ⟨a, X, rfl, _⟩ := h
    rfl
  · obtain ⟨a, X, rfl, hS, xa, xn, q⟩ := h
    have nd := scLByS.nd
    refine ⟨_, pss_cons (ps_set (i := 1) nd rfl (.inl rfl) pe_str)
      (pss_cons (ps_for PassesOwn.never rfl (pi_str (pe_call0 GL hr rfl Lt.g Lt.F.kp Lt.b .nil pass0)) (pg_name (i := 2) nd rfl (.inr rfl))
        (pss_one (ps_set (i := 1) nd rfl (.inl rfl) (pe_op op_add_str (pv 1) (pe_join pe_str (pe_lc (own := [("_law_side", 3)]) (g := gName 3) (tt := tTest (tOp rEq (tLow (tVar 3)) (tVar 2))) rfl nd (pi_list (pv 0)) (blkOk_by (N := ["_law_sides", "_law_found", "_law_sign", "_law_side"]) (sc := defScope sLByS) (by decide +kernel)) (fun _ _ _ _ _ => pg_name (i := 3) nd rfl (Or.inl rfl))
          (fun _ _ _ _ _ => pts_one (pt_cmpR op_eq (pe_lower (pv 3)) (pv 2) (nomark _))) (fun _ _ _ _ _ => pv 3)))))))
      (pss_one (ps_ret (pv 1)))), ?_⟩
    refine ⟨rfl, _, rfl, ?_⟩
    have lz : (tx ltrs).cps.size = 26 := by rw [show (tx ltrs).cps.size = ltrs.length from tx_len _]; rfl
    have wk := walk_str (z := tx ltrs)
    rw [lz] at wk
    refine for_it wk (fun i σ H' => ∃ (y2 y3 : Option V), σ = [some (.ref a), some (.str (tx ((ltrs'.take i).flatMap fun c => X.filter fun s => decide (lwc s = c)))), y2, y3] ∧ Same H H') ⟨_, _, by rw [str00]; rfl, L2.Same.refl _⟩ (fun _ _ _ _ _ => trivial) ?_ ?_
    · rintro i v σ H1 H2 hi ⟨y2, y3, rfl, s1⟩ ⟨rfl, c, hc, rfl⟩
      have hc : ltrs'[i]? = some c := by
        rw [← Array.getElem?_toList, tx_list] at hc
        exact hc
      refine ⟨_, rfl, ⟨_, rfl⟩, _, rfl, a, rfl, ⟨_, sm_l s1 hS⟩, fun Da na => ?_⟩
      have wkx := walk_list (K := K) (a := a) (xs := (X.map sg).map V.str)
      rw [List.length_map, List.length_map] at wkx
      refine lc_it wkx (fun j H' => Same H2 H' ∧ H' Da = some (.lst ((((X.take j).filter fun s => decide (lwc s = c)).map sg).map V.str))) ⟨same_upd na, upd_same⟩ (fun j H' _ h => sm_l h.1 (sm_l s1 hS)) ?_ ?_
      · rintro j v G1 G2 hj ⟨u1, e1⟩ ⟨rfl, hx⟩
        rw [List.getElem?_map, List.getElem?_map] at hx
        obtain ⟨z2, hz2, rfl⟩ := Option.map_eq_some_iff.mp hx
        obtain ⟨e, he, rfl⟩ := Option.map_eq_some_iff.mp hz2
        have ea := xa e (List.mem_of_getElem? he)
        have tk : X.take (j + 1) = X.take j ++ [e] := by rw [List.take_add_one, he]; rfl
        have fl : ((X.take j).filter fun s => decide (lwc s = c)).length ≤ 100 := Nat.le_trans (List.length_filter_le _ _) (by rw [List.length_take]; omega)
        refine ⟨rfl, _, rfl, ⟨_, rfl⟩, _, rfl, rfl, by show 1 ≤ 5592405; decide, ?_⟩
        rw [show Txt.lower (sg e) = ⟨#[lwc e]⟩ from low_sg ea]
        refine ⟨_, rfl, rfl, _, rfl, ?_⟩
        rw [str1_dec]
        refine ite2 (fun t => ⟨_, rfl, _, e1, by rw [List.length_map, List.length_map, sizeLine_eq]; omega, sm_over u1 na, ?_⟩) (fun t => ⟨u1, ?_⟩)
        · rw [upd_same, tk, List.filter_append, List.filter_cons, if_pos t]
          simp
        · rw [e1, tk, List.filter_append, List.filter_cons, if_neg t]
          simp
      · rintro G1 ⟨u1, e1⟩
        rw [List.take_length] at e1
        have fl : (X.filter fun s => decide (lwc s = c)).length ≤ 100 := Nat.le_trans (List.length_filter_le _ _) xn
        have fl2 := flatF_len X (ltrs'.take i)
        have fl3 : (ltrs'.take i).length ≤ 26 := by rw [List.length_take]; exact Nat.min_le_right _ _
        have fl4 : X.length * (ltrs'.take i).length ≤ 100 * 26 := Nat.mul_le_mul xn fl3
        refine ⟨_, _, (X.filter fun s => decide (lwc s = c)).map sg, rfl, rfl, .inl (SqL.of e1), ?_, ?_⟩
        · rw [sum_sgs, show (Str.ofString "").length = 0 by decide +kernel]
          omega
        · rw [join_sg]
          refine ⟨_, _, rfl, rfl, by rw [tx_len, tx_len, sizeLine_eq]; omega, some (.str ⟨#[c]⟩), y3, ?_, sm_trans s1 u1⟩
          rw [tx_app, byS_take X hc]
          rfl
    · rintro σ H1 ⟨y2, y3, rfl, s1⟩
      exact ⟨_, rfl, q H1 s1⟩
def spLImg : Sp := fun vs H Q _ => ∃ l t X, vs = [.str (tx l), .str (tx t), .str (tx X)] ∧ GoodW l ∧ t.length = l.length ∧ (∀ c ∈ t, isLt c) ∧ (∀ s ∈ X, s ∈ sds l) ∧ X.length ≤ 100 ∧ ∀ H', Same H H' → Q (.str (tx (byS (X.map (ov l t))))) H'
theorem upper_sg {c : Nat} (h : 97 ≤ c ∧ c ≤ 122) : Txt.upper (⟨#[c]⟩ : Str) = ⟨#[swp c]⟩ := by
  have e : Txt.upper (⟨#[c]⟩ : Str) = ⟨#[upc c]⟩ := upper_tx (l := [c]) (fun e he => by rw [List.mem_singleton.mp he]; omega)
  rw [e, upc_small h, swp_small h]
theorem ov_lt {l t : List Nat} (g : GoodW l) (hl : t.length = l.length) (ht : ∀ c ∈ t, isLt c) {s : Nat} (hs : s ∈ sds l) : isLt (ov l t s) := by
  obtain ⟨i, c, hc, e⟩ := (sds_at g).mp hs
  have hi : i < t.length := by rw [hl]; exact (List.getElem?_eq_some_iff.mp hc).1
  have e1 : t[i]? = some t[i] := List.getElem?_eq_getElem hi
  obtain ⟨o1, o2⟩ := ov_at g.sm g.nd hc e1
  have hx := ht _ (List.getElem_mem hi)
  rcases e with rfl | rfl
  · rw [o1]; exact hx
  · rw [o2]
    rcases hx with z | z
    · rw [swp_small z]; exact .inr (by omega)
    · rw [swp_great z]; exact .inl (by omega)
set_option maxHeartbeats 1000000 in
theorem ok_limg {f fL fO fB : Addr} {fd dL dO dB : FuncData} {k : Nat} (hz : mg "zip" = none) (F : Fun K "_law_image" "_law_image" sLImg f fd) (Lt : DF K mg "_law_letters" sLetters [] fL dL) (O : DF K mg "_law_other" sOth ["_law_side"] fO dO) (Bs : DF K mg "_law_by_shuts" sLByS ["_law_sides"] fB dB) :
    FnOk P w K mg base CX0 (k + 3) f fd ["_law_shuts_here", "_law_turn", "_law_sides"] spLImg := by
  have GO : FnOk P w K mg base CX0 (k + 1) fO dO ["_law_side"] spOth := ok_oth O.F
  have GB : FnOk P w K mg base CX0 (k + 2) fB dB ["_law_sides"] (spBySL K) := ok_bySL Bs.F Lt
  refine F.ok scLImg (fun vs H Q E h => ?_) (fun cdv A outer st H vs Q E hr h => ?_)
  · obtain ⟨l, t, X, rfl, _⟩ := h
    rfl
  · obtain ⟨l, t, X, rfl, g, hl, ha, hX, xn, q⟩ := h
    have nd := scLImg.nd
    have hl12 := g.hi
    have r1 : Room (k + 1) _ := hr.mono (by omega)
    refine ⟨_, pss_cons (ps_set (i := 3) nd rfl (.inr rfl) pe_dnewK)
      (pss_cons (ps_for PassesOwn.never rfl (pi_zipS (by rfl) hz (pa_cons (pv 0) (pa_cons (pv 1) pa_nil))) (pg_tup rfl (pgs_cons (pg_name (i := 4) nd rfl (Or.inl rfl)) (pgs_cons (pg_name (i := 5) nd rfl (Or.inl rfl)) pgs_nil)))
        (pss_cons (ps_dput (hu_of hr) (pv 3) (pv 4) (pv 5) rfl)
        (pss_one (ps_dput (hu_of hr) (pv 3) (pe_upper (pv 4)) (pe_call GO r1 rfl O.g O.F.kp O.b .nil pass0 (pa_cons (pv 5) pa_nil)) rfl))))
      (pss_one (ps_ret (pe_call GB hr rfl Bs.g Bs.F.kp Bs.b .nil pass0 (pa_cons (pe_lc (own := [("_law_side", 5)]) (g := gName 5) (tt := tYes) (te := tDGet (tVar 3) (tVar 5)) rfl nd (pi_str (pv 2)) (blkOk_by (N := nLImg) (sc := defScope sLImg) (by decide +kernel)) (fun _ _ _ _ _ => pg_name (i := 5) nd rfl (Or.inl rfl)) (fun _ _ _ _ _ => pts_nil)
        (fun _ _ _ _ _ => pe_dget (hu_of hr) (pv 3) (pv 5) (fun _ _ => rfl))) pa_nil))))), ?_⟩
    refine fun p np => ?_
    have l1 : (tx l).cps.size = l.length := tx_len _
    have l2 : (tx t).cps.size = t.length := tx_len _
    refine ⟨_, rfl, _, rfl, tx l, tx t, rfl, ?_⟩
    refine for_it (walk_zipS (n := l.length) (by rw [l1, l2]; omega)) (fun i σ H' => ∃ (y4 y5 : Option V), σ = [some (.str (tx l)), some (.str (tx t)), some (.str (tx X)), some (.ref p), y4, y5] ∧ Same H H' ∧ H' p = some (.dK (foK (kS (l.take i)) fun s => [ov l t s]))) ⟨_, _, rfl, same_upd np, upd_same⟩ (fun _ _ _ _ _ => trivial) ?_ ?_
    · rintro i v σ H1 H2 hi ⟨y4, y5, rfl, s1, e1⟩ ⟨T, s, u, rfl, nT, rfl, ⟨c, hc, rfl⟩, ⟨e, he, rfl⟩⟩
      have hc : l[i]? = some c := by
        rw [← Array.getElem?_toList, tx_list] at hc
        exact hc
      have he : t[i]? = some e := by
        rw [← Array.getElem?_toList, tx_list] at he
        exact he
      obtain ⟨o1, o2⟩ := ov_at g.sm g.nd hc he
      obtain ⟨n1, n2⟩ := kS_new g hc
      have cs := g.sm c (List.mem_of_getElem? hc)
      have ea := ha e (List.mem_of_getElem? he)
      have npT : p ≠ T := ne_of_none e1 nT
      have kl : (kS (l.take i)).length ≤ 24 := by rw [kS_len, List.length_take]; omega
      have s2 : Same H (upd H1 T (.tup [.str ⟨#[c]⟩, .str ⟨#[e]⟩])) := sm_upd s1 nT
      have e2 : (upd H1 T (.tup [.str ⟨#[c]⟩, .str ⟨#[e]⟩])) p = some (.dK (foK (kS (l.take i)) fun s => [ov l t s])) := by rw [upd_ne npT]; exact e1
      refine ⟨T, _, rfl, SqT.of upd_same, rfl, _, _, rfl, _, _, rfl, rfl, ?_⟩
      generalize upd H1 T (.tup [.str ⟨#[c]⟩, .str ⟨#[e]⟩]) = H3 at s2 e2 ⊢
      refine ⟨_, rfl, _, rfl, _, rfl, p, _, rfl, DPut.k (k := Sum.inr (sg c)) e2 (by unfold foK; rw [List.length_map, sizeLine_eq]; omega), ?_⟩
      have e3 : (upd H3 p (.dK (putK (foK (kS (l.take i)) fun s => [ov l t s]) (Sum.inr (sg c)) (.str ⟨#[e]⟩)))) p = some (.dK (foK (kS (l.take i) ++ [c]) fun s => [ov l t s])) := by
        rw [upd_same, putK_new _ (foK_no n1), ← o1]
        unfold foK
        rw [List.map_append]
        rfl
      have s3 : Same H (upd H3 p (.dK (putK (foK (kS (l.take i)) fun s => [ov l t s]) (Sum.inr (sg c)) (.str ⟨#[e]⟩)))) := sm_over s2 np
      generalize upd H3 p (.dK (putK (foK (kS (l.take i)) fun s => [ov l t s]) (Sum.inr (sg c)) (.str ⟨#[e]⟩))) = H4 at e3 s3 ⊢
      refine ⟨_, rfl, e, rfl, ea, _, rfl, _, rfl, ⟨_, rfl⟩, _, rfl, rfl, by show 1 ≤ 5592405; decide, ?_⟩
      rw [upper_sg cs]
      refine ⟨p, _, rfl, DPut.k (k := Sum.inr (sg (swp c))) e3 (by unfold foK; rw [List.length_map, List.length_append, sizeLine_eq]; simp; omega), ?_⟩
      refine ⟨_, _, rfl, sm_over s3 np, ?_⟩
      have n3 : swp c ∉ kS (l.take i) ++ [c] := fun z => by
        rcases List.mem_append.mp z with z | z
        · exact n2 z
        · have := List.mem_singleton.mp z
          rw [swp_small cs] at this
          omega
      rw [upd_same, putK_new _ (foK_no n3), ← o2, kS_snoc hc, show kS (l.take i) ++ [c, swp c] = (kS (l.take i) ++ [c]) ++ [swp c] by simp]
      unfold foK
      rw [List.map_append (l₁ := kS (l.take i) ++ [c])]
      rfl
    · rintro σ H1 ⟨y4, y5, rfl, s1, e1⟩
      rw [List.take_length] at e1
      have e1 : H1 p = some (.dK (ovK l t)) := e1
      refine ⟨_, rfl, tx X, rfl, fun Da na => ?_⟩
      have lz : (tx X).cps.size = X.length := tx_len _
      have wk := walk_str (z := tx X)
      rw [lz] at wk
      refine lc_it wk (fun i H' => Same H1 H' ∧ H' Da = some (.lst ((((X.take i).map (ov l t)).map sg).map V.str))) ⟨same_upd na, upd_same⟩ (fun _ _ _ _ => trivial) ?_ ?_
      · rintro i v G1 G2 hi ⟨u1, d1⟩ ⟨rfl, c, hc, rfl⟩
        have hc : X[i]? = some c := by
          rw [← Array.getElem?_toList, tx_list] at hc
          exact hc
        refine ⟨rfl, yes_i ⟨_, rfl, _, rfl, p, _, rfl, .inl ⟨_, Sum.inr (sg c), .inl (u1 _ _ e1), rfl, (ovK_val g (hX c (List.mem_of_getElem? hc))).symm⟩, _, d1, ?_, sm_over u1 na, ?_⟩⟩
        · rw [List.length_map, List.length_map, List.length_map, List.length_take, sizeLine_eq]
          omega
        · rw [upd_same, List.take_add_one, hc, List.map_append, List.map_append, List.map_append]
          rfl
      · rintro G1 ⟨u1, d1⟩
        rw [List.take_length] at d1
        refine ⟨Da, X.map (ov l t), rfl, SqL.of d1, fun c hc => ?_, by rw [List.length_map]; exact xn, fun G2 u2 => q G2 (sm_trans (sm_trans s1 u1) u2)⟩
        obtain ⟨s, hs, rfl⟩ := List.mem_map.mp hc
        exact (ov_lt g hl ha (hX s hs)).asc
end
end NC
namespace NC
open PySem PySem.Spec PyProof.Rows L2
def unS : V → Nat
  | .str s => s.cps.toList.headD 0
  | _ => 0
theorem perm_sgs {ys : List V} {L : List Nat} (h : ys.Perm ((L.map sg).map V.str)) : ∃ os : List Nat, os.Perm L ∧ ys = (os.map sg).map V.str := by
  refine ⟨ys.map unS, ?_, ?_⟩
  · have := h.map unS
    rw [List.map_map, List.map_map, show ((unS ∘ V.str) ∘ sg) = id from by funext k; rfl, List.map_id] at this
    exact this
  · rw [List.map_map, List.map_map]
    have : ∀ y ∈ ys, ((V.str ∘ sg) ∘ unS) y = y := fun y hy => by
      obtain ⟨z, hz, rfl⟩ := List.mem_map.mp (h.mem_iff.mp hy)
      obtain ⟨k, _, rfl⟩ := List.mem_map.mp hz
      rfl
    exact (List.map_id ys).symm.trans (List.map_congr_left fun y hy => (this y hy).symm)
def tUp (te : TE) : TE := tM0 (fun x xs H Q => ∃ a, x = .str a ∧ xs = [] ∧ a.length ≤ 5592405 ∧ Q (.str (Txt.upper a)) H) te
section
variable {P : Program} {w : World} {K : PySem.W.Frag} {mg : Str → Option Value} {base : Heap}
def spSomeT : Sp := fun vs H Q _ => ∃ d l, vs = [.ref d, .str (tx l)] ∧ Dr H d ∧ GoodW l ∧ ∀ H' t, SmD d H H' → Dr H' d → Trn l t → Q (.str (tx t)) H'
set_option maxHeartbeats 1000000 in
theorem ok_someT {f fD fM : Addr} {fd dD dM : FuncData} {k : Nat} (B : BM mg) (F : Fun K "_law_some_turn" "_law_some_turn" sLSome f fd) (D : DF K mg "_law_draw" sDraw ["_law_d", "_law_many"] fD dD) (Mx : DF K mg "_law_mixed" sLMix ["_law_d", "_law_some"] fM dM) :
    FnOk P w K mg base CX0 (k + 3) f fd ["_law_d", "_law_shuts_here"] spSomeT := by
  have GD : FnOk P w K mg base CX0 (k + 1) fD dD ["_law_d", "_law_many"] spDraw := ok_draw B D.F
  have GM : FnOk P w K mg base CX0 (k + 2) fM dM ["_law_d", "_law_some"] spMixed := ok_mixed B D Mx.F
  refine F.ok scLSome (fun vs H Q E h => ?_) (fun cdv A outer st H vs Q E hr h => ?_)
  · obtain ⟨d, l, rfl, _⟩ := h
    rfl
  · obtain ⟨d, l, rfl, hD, g, q⟩ := h
    have nd := scLSome.nd
    have hl12 := g.hi
    have r1 : Room (k + 1) _ := hr.mono (by omega)
    refine ⟨_, pss_one (ps_ret (pe_join pe_str (pe_lc (own := [("_law_side", 2)]) (g := gName 2) (tt := tYes) (te := tOp (rIxL K) (tLst (tCons (tVar 2) (tCons (tUp (tVar 2)) tNil))) (tCall spDraw [] E0 (tCons (tVar 0) (tCons (tC (.int 2)) tNil)))) rfl nd
      (pi_list (pe_call GM hr rfl Mx.g Mx.F.kp Mx.b .nil pass0 (pa_cons (pv 0) (pa_cons (pe_callTy (cr_listS rfl) (by rfl) B.list (by decide +kernel) (pa_cons (pv 1) pa_nil)) pa_nil)))) (blkOk_by (N := ["_law_d", "_law_shuts_here", "_law_side"]) (sc := defScope sLSome) (by decide +kernel)) (fun _ _ _ _ _ => pg_name (i := 2) nd rfl (Or.inl rfl)) (fun _ _ _ _ _ => pts_nil)
      (fun _ _ _ _ _ => pe_ix ix_list (pe_lst (pa_cons (pv 2) (pa_cons (pe_upper (pv 2)) pa_nil))) (pe_call GD r1 rfl D.g D.F.kp D.b .nil pass0 (pa_cons (pv 0) (pa_cons pe_int pa_nil))) (fun _ _ => rfl))))), ?_⟩
    refine ⟨⟨_, rfl⟩, _, rfl, _, rfl, _, rfl, by rw [tx_len, sizeLine_eq]; omega, fun p np => ?_⟩
    rw [sgs_tx]
    have s1 : Same H (upd H p (.lst ((l.map sg).map V.str))) := same_upd np
    refine ⟨d, p, _, rfl, hD.same s1, hD.ne np, upd_same, by rw [List.length_map, List.length_map]; omega, fun H1 pm ys0 u1 D1 npm epm pr => ?_⟩
    obtain ⟨os, po, rfl⟩ := perm_sgs pr
    have u01 : SmD d H H1 := (SmD.of s1).trans u1
    refine ⟨pm, rfl, ⟨_, SqL.of epm⟩, fun Da na => ?_⟩
    have npd : pm ≠ d := (hD.same s1).ne npm
    have nDd : Da ≠ d := D1.ne na
    have ol : os.length = l.length := po.length_eq
    have wk := walk_list (K := K) (a := pm) (xs := (os.map sg).map V.str)
    rw [List.length_map, List.length_map] at wk
    refine lc_it wk (fun i H' => SmD d H1 H' ∧ Dr H' d ∧ ∃ t : List Nat, H' Da = some (.lst ((t.map sg).map V.str)) ∧ t.map lwc = os.take i) ⟨SmD.of (same_upd na), D1.same (same_upd na), [], upd_same, rfl⟩ (fun i H' _ h => SqL.of (h.1.1 _ _ npd epm)) ?_ ?_
    · rintro i v G1 G2 hi ⟨v1, E1, t, et, ht⟩ ⟨rfl, hx⟩
      rw [List.getElem?_map, List.getElem?_map] at hx
      obtain ⟨z2, hz2, rfl⟩ := Option.map_eq_some_iff.mp hx
      obtain ⟨c, hc, rfl⟩ := Option.map_eq_some_iff.mp hz2
      have cs := g.sm c (po.mem_iff.mp (List.mem_of_getElem? hc))
      have tl : t.length = i := by
        have := congrArg List.length ht
        rw [List.length_map, List.length_take] at this
        omega
      refine ⟨rfl, yes_i ⟨_, rfl, _, rfl, ⟨_, rfl⟩, _, rfl, rfl, by show 1 ≤ 5592405; decide, ?_⟩⟩
      rw [show Txt.upper (sg c) = ⟨#[swp c]⟩ from upper_sg cs]
      refine ⟨by show 2 ≤ sizeLine; decide, fun T nT => ?_⟩
      have s3 : Same G2 (upd G2 T (.lst [.str (sg c), .str ⟨#[swp c]⟩])) := same_upd nT
      have nTd := E1.ne nT
      refine ⟨_, rfl, d, 2, rfl, E1.same s3, by decide, by decide, fun G3 how u3 E3 h0 h1 => ?_⟩
      obtain ⟨e, he, hat⟩ : ∃ e, lwc e = c ∧ atI [V.str (sg c), V.str ⟨#[swp c]⟩] how = some (.str (sg e)) := by
        have hv : how = 0 ∨ how = 1 := by omega
        rcases hv with z | z
        · exact ⟨c, lwc_small cs, by rw [z]; rfl⟩
        · exact ⟨swp c, by rw [lwc_swp (.inl cs), lwc_small cs], by rw [z]; rfl⟩
      have u13 : SmD d H1 G3 := (v1.trans (SmD.of s3)).trans u3
      have et3 := u3.1 _ _ nDd (s3 _ _ et)
      refine ⟨T, _, how, .str (sg e), rfl, rfl, SqL.of (u3.1 _ _ nTd upd_same), hat, _, et3, by rw [List.length_map, List.length_map, sizeLine_eq]; omega, ?_⟩
      obtain ⟨u5, E5⟩ := ds_over (o := .lst ((t.map sg).map V.str ++ [.str (sg e)])) D1 u13 E3 na
      refine ⟨u5, E5, t ++ [e], by rw [upd_same, List.map_append, List.map_append]; rfl, ?_⟩
      rw [List.map_append, ht, List.take_add_one, hc]
      show _ ++ [lwc e] = _
      rw [he]
      rfl
    · rintro G1 ⟨v1, E1, t, et, ht⟩
      rw [List.take_length] at ht
      have tl : t.length = l.length := by
        have := congrArg List.length ht
        rw [List.length_map] at this
        omega
      refine ⟨_, _, t.map sg, rfl, rfl, .inl (SqL.of et), ?_, ?_⟩
      · rw [sum_sgs, show (Str.ofString "").length = 0 by decide +kernel]
        omega
      · rw [join_sg]
        exact q _ t (u01.trans v1) E1 ⟨tl, by rw [ht]; exact po⟩
end
end NC
namespace NC
open PySem PySem.Spec PyProof.Rows L2
abbrev sLIsT : Stmt := topS 97
abbrev nLIsT : List Str := ["_law_shuts_here", "_law_rooms_here", "_law_text", "_law_room"]
theorem scLIsT : FnScope nLIsT ["_law_shuts_here", "_law_rooms_here", "_law_text"] (defScope sLIsT) := ⟨rfl, rfl, rfl, by decide +kernel, rfl, by decide +kernel, by decide +kernel⟩
theorem Trn.lt {l t : List Nat} (g : GoodW l) (T : Trn l t) : ∀ c ∈ t, isLt c := fun c hc => sds_lt g (trn_sd g T hc)
theorem lex_le : ∀ (p : List Nat) {x y : Nat} (r s : List Nat), x < y → (p ++ x :: r) ≤ (p ++ y :: s)
  | [], x, y, r, s, h => by
    show x :: r ≤ y :: s
    rw [List.cons_le_cons_iff]
    exact .inl h
  | a :: p, x, y, r, s, h => by
    show a :: (p ++ x :: r) ≤ a :: (p ++ y :: s)
    rw [List.cons_le_cons_iff]
    exact .inr ⟨rfl, lex_le p r s h⟩
theorem bef_le {l : List Nat} (g : GoodW l) {a b : List Nat} (ha : a.length = l.length) (h : Bef l a b) : leS (tx a) (tx b) := by
  obtain ⟨i, h1, h2, h3, h4, h5⟩ := h
  have hil : i < l.length := by omega
  have sm := g.sm _ (List.getElem_mem hil)
  have el : l.getD i 0 = l[i] := by rw [List.getD_eq_getElem?_getD, List.getElem?_eq_getElem hil]; rfl
  have ea : a.getD i 0 = a[i] := by rw [List.getD_eq_getElem?_getD, List.getElem?_eq_getElem h1]; rfl
  have eb : b.getD i 0 = b[i] := by rw [List.getD_eq_getElem?_getD, List.getElem?_eq_getElem h2]; rfl
  have lt : a[i] < b[i] := by
    rw [← ea, ← eb, h4, h5, el, upc_small sm]
    omega
  show (tx a).cps.toList ≤ (tx b).cps.toList
  rw [tx_list, tx_list]
  have sa : a = a.take i ++ a[i] :: a.drop (i + 1) := by rw [List.getElem_cons_drop, List.take_append_drop]
  have sb : b = b.take i ++ b[i] :: b.drop (i + 1) := by rw [List.getElem_cons_drop, List.take_append_drop]
  rw [sa, sb, h3]
  exact lex_le _ _ _ lt
theorem rms_rise {l : List Nat} (g : GoodW l) {bs : List (List Nat)} (p : List Nat → Bool) : (((rms l bs).filter p).map tx).Pairwise leS := by
  rw [List.pairwise_map]
  have pw : ((rms l bs).filter p).Pairwise (Bef l) := by
    unfold rms
    exact ((allT_pw l l.length).filter _).filter _
  refine List.Pairwise.imp_of_mem (fun {a b} ha hb h => ?_) pw
  exact bef_le g (rms_lets g a (List.mem_filter.mp ha).1).1 h
theorem flat_perm (u : List Nat) (f : Nat → Nat) : ∀ L : List Nat, L.Nodup → (L.flatMap fun c => u.filter fun s => decide (f s = c)).Perm (u.filter fun s => decide (f s ∈ L))
  | [], _ => by simp
  | a :: r, nd => by
    obtain ⟨n1, n2⟩ := List.nodup_cons.mp nd
    have ih := flat_perm u f r n2
    rw [List.flatMap_cons]
    have p := List.filter_append_perm (fun s => decide (f s = a)) (u.filter fun s => decide (f s ∈ a :: r))
    have e1 : ((u.filter fun s => decide (f s ∈ a :: r)).filter fun s => decide (f s = a)) = u.filter fun s => decide (f s = a) := by
      rw [List.filter_filter]
      refine List.filter_congr fun s _ => ?_
      by_cases z : f s = a <;> simp [z]
    have e2 : ((u.filter fun s => decide (f s ∈ a :: r)).filter fun s => !decide (f s = a)) = u.filter fun s => decide (f s ∈ r) := by
      rw [List.filter_filter]
      refine List.filter_congr fun s _ => ?_
      by_cases z : f s = a
      · simp [z, n1]
      · simp [z]
    rw [e1, e2] at p
    exact (ih.append_left _).trans p
/-- letters that are the walls, by letters, are a row of them -/
theorem byS_perm {l u : List Nat} (g : GoodW l) : (byS u = l ∧ u.length = l.length) ↔ (u.Perm l) := by
  constructor
  · rintro ⟨e, n⟩
    have p := flat_perm u lwc ltrs' (ltrs_rise.imp fun h => Nat.ne_of_lt h)
    have e' : (ltrs'.flatMap fun c => u.filter fun s => decide (lwc s = c)) = l := e
    rw [e'] at p
    have ln := p.length_eq
    have ef : (u.filter fun s => decide (lwc s ∈ ltrs')) = u := List.filter_sublist.eq_of_length (by omega)
    rw [ef] at p
    exact p.symm
  · intro p
    refine ⟨?_, p.length_eq⟩
    rw [byS_is g (p.symm.nodup g.nd) fun c hc => p.mem_iff.mp hc]
    exact List.filter_eq_self.mpr fun c hc => decide_eq_true (p.mem_iff.mpr hc)
theorem rms_nd' {l : List Nat} (g : GoodW l) {bs : List (List Nat)} {r : List Nat} (hr : r ∈ rms l bs) : (r.map lwc).Nodup := by
  rw [(room_low g r).mp (by unfold rms at hr; exact (List.mem_filter.mp hr).1)]
  exact g.nd
section
variable {P : Program} {w : World} {K : PySem.W.Frag} {mg : Str → Option Value} {base : Heap}
def spLIsT (K : PySem.W.Frag) : Sp := fun vs H Q _ => ∃ l a t bs, vs = [.str (tx l), .ref a, .str (tx t)] ∧ GoodW l ∧ l.length ≤ 5 ∧ (∀ b ∈ bs, isBar l b = true) ∧ SqL K H a (((rms l bs).map tx).map V.str) ∧ (∀ c ∈ t, c < 128) ∧ t.length ≤ 60 ∧ ∀ H' b, Same H H' → (b = true ↔ TurnOk l bs t) → Q (.bl b) H'
set_option maxHeartbeats 1000000 in
theorem ok_lisT {f fI fL fO fB : Addr} {fd dI dL dO dB : FuncData} {k : Nat} (B : BM mg) (hz : mg "zip" = none) (F : Fun K "_law_is_turn" "_law_is_turn" sLIsT f fd) (Im : DF K mg "_law_image" sLImg ["_law_shuts_here", "_law_turn", "_law_sides"] fI dI) (Lt : DF K mg "_law_letters" sLetters [] fL dL) (O : DF K mg "_law_other" sOth ["_law_side"] fO dO) (Bs : DF K mg "_law_by_shuts" sLByS ["_law_sides"] fB dB) :
    FnOk P w K mg base CX0 (k + 4) f fd ["_law_shuts_here", "_law_rooms_here", "_law_text"] (spLIsT K) := by
  have GI : FnOk P w K mg base CX0 (k + 3) fI dI ["_law_shuts_here", "_law_turn", "_law_sides"] spLImg := ok_limg hz Im.F Lt O Bs
  have GB : FnOk P w K mg base CX0 (k + 2) fB dB ["_law_sides"] spByS := ok_byS Bs.F Lt
  refine F.ok scLIsT (fun vs H Q E h => ?_) (fun cdv A outer st H vs Q E hr h => ?_)
  · obtain ⟨l, a, t, bs, rfl, _⟩ := h
    rfl
  · obtain ⟨l, a, t, bs, rfl, g, h5, bar, hS, ha, hn, q⟩ := h
    have nd := scLIsT.nd
    have hu := hr.units
    have r2 : Room (k + 2) _ := hr.mono (by omega)
    have hl12 := g.hi
    refine ⟨_, pss_cons (ps_if (PW.pt (pw_or (pt_cmpR op_ne (pe_call GB r2 rfl Bs.g Bs.F.kp Bs.b .nil pass0 (pa_cons (pe_lower (pv 2)) pa_nil)) (pv 0) (nomark _)) (pw_or1 (pt_cmpR op_ne (pe_callB call_len_str (by rfl) B.len PySem.boot_len (pa_cons (pv 2) pa_nil)) (pe_callB call_len_str (by rfl) B.len PySem.boot_len (pa_cons (pv 0) pa_nil)) (nomark _))))) (pss_one (ps_ret pe_bl)) pss_nil)
      (pss_one (ps_ret (pe_cmpR (op_eqD hu) (pe_callB cr_sortedS (by rfl) B.sorted (by decide +kernel) (pa_cons (pe_lc (own := [("_law_room", 3)]) (g := gName 3) (tt := tYes) (te := tCall spLImg [] E0 (tCons (tVar 0) (tCons (tVar 2) (tCons (tVar 3) tNil)))) rfl nd (pi_list (pv 1)) (blkOk_by (N := nLIsT) (sc := defScope sLIsT) (by decide +kernel)) (fun _ _ _ _ _ => pg_name (i := 3) nd rfl (Or.inl rfl)) (fun _ _ _ _ _ => pts_nil)
        (fun _ _ _ _ _ => pe_call GI hr rfl Im.g Im.F.kp Im.b .nil pass0 (pa_cons (pv 0) (pa_cons (pv 2) (pa_cons (pv 3) pa_nil))))) pa_nil)) (pv 1) (nomark _)))), ?_⟩
    have ts : (tx t).length ≤ sizeLine := by rw [tx_len, sizeLine_eq]; omega
    have ls : (tx l).length ≤ sizeLine := by rw [tx_len, sizeLine_eq]; omega
    refine ⟨_, rfl, ⟨_, rfl⟩, tx t, rfl, rfl, by rw [tx_len]; omega, ?_⟩
    rw [lower_tx ha]
    refine ⟨t.map lwc, rfl, fun c hc => ?_, by rw [List.length_map]; omega, fun H1 s1 => ?_⟩
    · obtain ⟨e, he, rfl⟩ := List.mem_map.mp hc
      have := ha e he
      unfold lwc
      split <;> omega
    have no : ∀ {G : Hp}, Same H G → ¬ (byS (t.map lwc) = l ∧ (t.map lwc).length = l.length) → Q (.bl false) G := fun s z => q _ false s ⟨nofun, fun y => absurd ((byS_perm g).mpr y.1.pm) z⟩
    refine ⟨_, rfl, rfl, _, rfl, ite2 (fun e => ?_) (fun e => ?_)⟩
    · refine iteT (no s1 fun z => ?_)
      rw [z.1] at e
      simp at e
    have eb : byS (t.map lwc) = l := by
      simp only [Bool.not_eq_true, Bool.not_eq_false', decide_eq_true_eq] at e
      exact tx_inj (V.str.inj e)
    refine ⟨_, rfl, _, rfl, ts, _, rfl, _, rfl, ls, rfl, _, rfl, ite2 (fun e2 => ?_) (fun e2 => ?_)⟩
    · refine no s1 fun z => ?_
      rw [List.length_map] at z
      rw [tx_len, tx_len, z.2] at e2
      simp at e2
    have el : t.length = l.length := by
      rw [tx_len, tx_len] at e2
      simp only [Bool.not_eq_true, Bool.not_eq_false', decide_eq_true_eq] at e2
      have := V.int.inj e2
      omega
    have T : Trn l t := ⟨el, (byS_perm g).mp ⟨eb, by rw [List.length_map]; exact el⟩⟩
    have hS1 := sm_l s1 hS
    refine ⟨_, rfl, a, rfl, ⟨_, hS1⟩, fun Da na => ?_⟩
    have wk := walk_list (K := K) (a := a) (xs := ((rms l bs).map tx).map V.str)
    rw [List.length_map, List.length_map] at wk
    have rl : (rms l bs).length < 64 := by
      unfold rms
      refine Nat.lt_of_le_of_lt (List.length_filter_le _ _) ?_
      rw [allT_len]
      exact Nat.lt_of_le_of_lt (Nat.pow_le_pow_right (by decide) h5) (by decide)
    refine lc_it wk (fun j H' => Same H1 H' ∧ H' Da = some (.lst (((((rms l bs).take j).map (imL l t)).map tx).map V.str))) ⟨same_upd na, upd_same⟩ (fun j H' _ h => sm_l h.1 hS1) ?_ ?_
    · rintro j v G1 G2 hj ⟨u1, e1⟩ ⟨rfl, hx⟩
      rw [List.getElem?_map, List.getElem?_map] at hx
      obtain ⟨z2, hz2, rfl⟩ := Option.map_eq_some_iff.mp hx
      obtain ⟨r, hr2, rfl⟩ := Option.map_eq_some_iff.mp hz2
      have rm := List.mem_of_getElem? hr2
      have sd := rms_sd g bar rm
      refine ⟨rfl, yes_i ⟨_, rfl, _, rfl, _, rfl, l, t, r, rfl, g, el, T.lt g, sd, by have := (rms_lets g r rm).1; omega, fun G3 u3 => ?_⟩⟩
      rw [im_is g T sd (rms_nd' g rm)]
      refine ⟨_, u3 _ _ e1, ?_, sm_over (sm_trans u1 u3) na, ?_⟩
      · rw [List.length_map, List.length_map, List.length_map, List.length_take, sizeLine_eq]
        omega
      · rw [upd_same, List.take_add_one, hr2, List.map_append, List.map_append, List.map_append]
        rfl
    rintro G1 ⟨u1, e1⟩
    rw [List.take_length] at e1
    refine ⟨Da, ((rms l bs).map (imL l t)).map tx, rfl, SqL.of e1, by rw [List.length_map, List.length_map]; exact rl, fun ys p pm so np => ?_⟩
    have s2 : Same H (upd G1 p (.lst (ys.map V.str))) := sm_upd (sm_trans s1 u1) np
    have okr : ∀ y ∈ (rms l bs).map tx, okS y := fun y hy => by
      obtain ⟨r, hr', rfl⟩ := List.mem_map.mp hy
      exact okS_tx fun c hc => ((rms_lets g r hr').2 c hc).asc
    have oks : ∀ y ∈ ys, okS y := fun y hy => by
      obtain ⟨z, hz', rfl⟩ := List.mem_map.mp (pm.mem_iff.mp hy)
      obtain ⟨r, _, rfl⟩ := List.mem_map.mp hz'
      exact okS_tx fun c hc => sds_asc g (im_sd g T hc)
    refine ⟨_, rfl, _, _, .lst (SqL.of upd_same) (dpAll_strs ys), .lst (sm_l s2 hS) (dpAll_strs _), shaped_strs oks, shaped_strs okr, ?_⟩
    have ee : PyData.eqv (.list (ys.map .str)) (.list (((rms l bs).map tx).map .str)) = decide (ys = (rms l bs).map tx) := eqvAll_strs _ _
    rw [ee]
    refine q _ _ s2 ?_
    rw [decide_eq_true_eq]
    constructor
    · intro e
      refine ⟨T, fun r hr' => ?_⟩
      have : tx (imL l t r) ∈ ys := pm.mem_iff.mpr (List.mem_map.mpr ⟨_, List.mem_map.mpr ⟨r, hr', rfl⟩, rfl⟩)
      rw [e] at this
      exact mem_tx0.mp this
    · intro z
      have ri := rms_rise g (bs := bs) (fun _ => true)
      rw [List.filter_eq_self.mpr (fun _ _ => rfl)] at ri
      exact sortedS_eq so (pm.trans ((im_sur g bar T z.2).map tx)) ri
end
end NC
namespace NC
open PySem PySem.Spec PyProof.Rows L2
abbrev sKeeps : Stmt := topS 43
abbrev sIsTurn : Stmt := topS 44
theorem scKeeps : FnScope ["hall", "into", "side", "met"] ["hall", "into"] (defScope sKeeps) := ⟨rfl, rfl, rfl, by decide +kernel, rfl, by decide +kernel, by decide +kernel⟩
theorem scIsTurn : FnScope ["hall", "turn", "walls"] ["hall", "turn"] (defScope sIsTurn) := ⟨rfl, rfl, rfl, by decide +kernel, rfl, by decide +kernel, by decide +kernel⟩
theorem unlock_same {H H' : Hp} {d : Addr} {u v : HO} (h : H d = some u) (s : Same (upd H d v) H') : Same H (upd H' d u) := fun b o hb => by
  by_cases e : b = d
  · rw [e, upd_same, ← h, ← e]; exact hb
  · rw [upd_ne e]
    exact s b o (by rw [upd_ne e]; exact hb)
section
variable {P : Program} {w : World} {K : PySem.W.Frag} {mg : Str → Option Value} {base : Heap} {C fi fb fw ff : Addr} {di db dw df : FuncData}
def spKeeps (C : Addr) : Sp := fun vs H Q _ => ∃ x dx sb D l ys fo bs J t, vs = [.ref x, .ref J] ∧ HallF C H x dx sb D l ys fo bs ∧ Trn l t ∧ J ≠ D ∧ H J = some (.dK (ovK l t)) ∧ ∀ H' b, Same H H' → (b = true ↔ ∀ s ∈ sds l, byWT l ((fo s).map (ov l t)) = fo (ov l t s)) → Q (.bl b) H'
set_option maxHeartbeats 1000000 in
theorem ok_keeps {f fC fS fO fBy fSo : Addr} {fd dC dS dO dBy dSo : FuncData} {k : Nat} (B : BM mg) (Z : HC K mg C fi fb di db) (Y : HP K C fw ff dw df) (Cs : DF K mg "check_side" sChkSide ["walls", "side"] fC dC) (S : DF K mg "sides_of" sSides ["walls"] fS dS) (O : DF K mg "other" sOther ["side"] fO dO) (By : DF K mg "by_walls" sByWalls ["walls", "sides"] fBy dBy)
    (So : DF K mg "sides_over" sSidesO ["into", "sides"] fSo dSo) (F : Fun K "keeps_forcing" "keeps_forcing" sKeeps f fd) : FnOk P w K mg base CX0 (k + 4) f fd ["hall", "into"] (spKeeps C) := by
  have GF : FnOk P w K mg base CX0 (k + 3) ff df ["self", "side"] (spHforced C) := ok_Hforced B Z Y Cs S
  have GW : FnOk P w K mg base CX0 (k + 1) fw dw ["self"] (spHwalls C) := ok_Hwalls Z Y
  have GB : FnOk P w K mg base CX0 (k + 2) fBy dBy ["walls", "sides"] spByWT := ok_byWT By.F O
  have GS : FnOk P w K mg base CX0 (k + 1) fSo dSo ["into", "sides"] spSidesO := ok_sidesO So.F
  refine F.ok scKeeps (fun vs H Q E h => ?_) (fun cdv A outer st H vs Q E hr h => ?_)
  · obtain ⟨x, dx, sb, D, l, ys, fo, bs, J, t, rfl, _⟩ := h
    rfl
  · obtain ⟨x, dx, sb, D, l, ys, fo, bs, J, t, rfl, hF, T, nJD, eJ, q⟩ := h
    have nd := scKeeps.nd
    have g := hF.G.g
    have hA := hF.G.hA
    have r1 : Room (k + 1) _ := hr.mono (by omega)
    have r2 : Room (k + 2) _ := hr.mono (by omega)
    have hl12 := g.hi
    refine ⟨_, pss_cons (ps_lock (ps_for PassesOwn.never rfl (pi_keys (pv 1)) (pg_name (i := 2) nd rfl (.inl rfl))
        (pss_cons (ps_set (i := 3) nd rfl (.inl rfl) (pe_call GB r2 rfl By.g By.F.kp By.b .nil pass0 (pa_cons (pe_meth0 (pv 0) Z.cl Y.mw GW r1 Y.bw .nil pass0) (pa_cons (pe_call GS r1 rfl So.g So.F.kp So.b .nil pass0 (pa_cons (pv 1) (pa_cons (pe_meth (pv 0) Z.cl Y.mf GF hr Y.bf .nil pass0 (pa_cons (pv 2) pa_nil)) pa_nil))) pa_nil))))
        (pss_one (ps_if (pt_cmpR op_ne (pv 3) (pe_meth (pv 0) Z.cl Y.mf GF hr Y.bf .nil pass0 (pa_cons (pe_dget (hu_of hr) (pv 1) (pv 2) (fun _ _ => rfl)) pa_nil)) (nomark _)) (pss_one (ps_ret pe_bl)) pss_nil)))))
      (pss_one (ps_ret pe_bl)), ?_⟩
    refine ⟨J, .dK (ovK l t), eJ, True.intro, fun od => ?_⟩
    have nxJ : x ≠ J := ne_of hA.x eJ (fun z => by cases z)
    have nsJ : sb ≠ J := ne_of hA.sb eJ (fun z => by cases z)
    have hAl : HallAt C (upd H J (.frz od (.dK (ovK l t)))) x dx sb D l ys fo := ⟨by rw [upd_ne nxJ]; exact hA.x, by rw [upd_ne nsJ]; exact hA.sb, by rw [upd_ne (Ne.symm nJD)]; exact hA.D⟩
    have eF : (upd H J (.frz od (.dK (ovK l t)))) J = some (.frz od (.dK (ovK l t))) := upd_same
    have back : ∀ {H'}, Same (upd H J (.frz od (.dK (ovK l t)))) H' → Same H (upd H' J (.dK (ovK l t))) := fun s => unlock_same eJ s
    generalize upd H J (.frz od (.dK (ovK l t))) = H1 at hAl eF back ⊢
    have wk := walk_keys (d := J) (o := od) (kvs := ovK l t)
    have ln : (ovK l t).length = (kS l).length := by unfold ovK foK; rw [List.length_map]
    rw [ln] at wk
    refine ⟨_, rfl, J, od, rfl, .inl ⟨_, eF, ?_⟩⟩
    refine for_it wk (fun i σ H' => ∃ (y2 y3 : Option V), σ = [some (.ref x), some (.ref J), y2, y3] ∧ Same H1 H' ∧ ∀ s ∈ (kS l).take i, byWT l ((fo s).map (ov l t)) = fo (ov l t s)) ⟨_, _, rfl, L2.Same.refl _, by simp⟩ (fun i σ H' _ h => by obtain ⟨_, _, _, h, _⟩ := h; exact h _ _ eF) ?_ ?_
    · rintro i v σ H2 H3 hi ⟨y2, y3, rfl, s2, al⟩ ⟨rfl, kk, vv, hk, rfl⟩
      unfold ovK foK at hk
      rw [List.getElem?_map] at hk
      obtain ⟨s, hs, ey⟩ := Option.map_eq_some_iff.mp hk
      cases ey
      have hsd : s ∈ sds l := (kS_mem g).mp (List.mem_of_getElem? hs)
      have hA2 := hAl.same s2
      refine ⟨_, rfl, x, dx, _, rfl, hA2.x, rfl, x, dx, sb, D, l, ys, fo, rfl, hA2, ?_⟩
      refine ⟨_, rfl, _, rfl, x, dx, _, rfl, hA2.x, rfl, _, rfl, x, dx, sb, D, l, ys, fo, s, rfl, hA2, g, hsd, fun H4 s4 => ?_⟩
      have eF4 := s4 _ _ (s2 _ _ eF)
      refine ⟨J, ovK l t, fo s, ov l t, rfl, .inr ⟨od, eF4⟩, fun u hu => ovK_val g (Frc.mem g hF.G.bar hsd ((hF.hf s hsd u).mp hu)), Nat.le_trans (hF.fl s hsd) (by decide), fun H5 s5 => ?_⟩
      refine ⟨l, (fo s).map (ov l t), rfl, g, fun H6 s6 => ?_⟩
      have s16 := sm_trans (sm_trans (sm_trans s2 s4) s5) s6
      have hA6 := hAl.same s16
      have hos := ov_sd g T hsd
      refine ⟨_, rfl, _, rfl, x, dx, _, rfl, hA6.x, rfl, _, rfl, _, rfl, J, _, rfl, .inl ⟨_, Sum.inr (sg s), .inr ⟨od, s16 _ _ eF⟩, rfl, (ovK_val g hsd).symm⟩, x, dx, sb, D, l, ys, fo, ov l t s, rfl, hA6, g, hos, fun H7 s7 => ?_⟩
      have s17 := sm_trans s16 s7
      refine ⟨rfl, _, rfl, ?_⟩
      refine ite2 (fun e => ?_) (fun e => ?_)
      · have ne : byWT l ((fo s).map (ov l t)) ≠ fo (ov l t s) := fun z => by
          rw [z] at e
          simp at e
        exact ⟨s17 _ _ eF, q _ false (back s17) ⟨nofun, fun z => absurd (z s hsd) ne⟩⟩
      · have eq : byWT l ((fo s).map (ov l t)) = fo (ov l t s) := by
          simp only [Bool.not_eq_true, Bool.not_eq_false', decide_eq_true_eq] at e
          exact tx_inj (V.str.inj e)
        refine ⟨_, _, rfl, s17, fun u hu => ?_⟩
        rw [List.take_add_one, hs] at hu
        rcases List.mem_append.mp hu with z | z
        · exact al u z
        · have : u = s := by simpa using z
          rw [this]
          exact eq
    · rintro σ H2 ⟨y2, y3, rfl, s2, al⟩
      rw [List.take_length] at al
      exact ⟨s2 _ _ eF, q _ true (back s2) ⟨fun _ s hs => al s ((kS_mem g).mpr hs), fun _ => rfl⟩⟩
/-- a hall whose forced sides are told wall by wall -/
structure HallN (C : Addr) (H : Hp) (x dx sb D : Addr) (l : List Nat) (ys : List Str) (fo : Nat → List Nat) (bs : List (List Nat)) : Prop where
  F : HallF C H x dx sb D l ys fo bs
  nf : ∀ s ∈ sds l, fo s = byWT l (fo s)
theorem HallN.same {H H' : Hp} {x dx sb D : Addr} {l : List Nat} {ys : List Str} {fo : Nat → List Nat} {bs : List (List Nat)} (h : HallN C H x dx sb D l ys fo bs) (s : Same H H') : HallN C H' x dx sb D l ys fo bs := ⟨h.F.same s, h.nf⟩
def spIsTurn (C : Addr) : Sp := fun vs H Q _ => ∃ x dx sb D l ys fo bs t, vs = [.ref x, .str (tx t)] ∧ HallN C H x dx sb D l ys fo bs ∧ (∀ c ∈ t, c < 128) ∧ t.length ≤ 60 ∧ ∀ H' b, Same H H' → (b = true ↔ TurnOk l bs t) → Q (.bl b) H'
/-- sorted letters that are the walls are a row of them -/
theorem sorted_perm {l u : List Nat} (g : GoodW l) {ys : List Str} (p : ys.Perm (u.map sg)) (so : sortedS ys = true) : ys = l.map sg ↔ u.Perm l := by
  constructor
  · intro e
    rw [e] at p
    have := p.map fun s : Str => s.cps.toList.headD 0
    rw [List.map_map, List.map_map] at this
    have id' : ∀ L : List Nat, L.map ((fun s : Str => s.cps.toList.headD 0) ∘ sg) = L := fun L => by
      conv => rhs; rw [← List.map_id L]
      rfl
    rw [id', id'] at this
    exact this.symm
  · intro e
    exact sortedS_eq so (p.trans (e.map sg)) g.pw
set_option maxHeartbeats 1000000 in
theorem ok_isTurn {f fC fS fO fBy fSo fKe fGo : Addr} {fd dC dS dO dBy dSo dKe dGo : FuncData} {k : Nat} (B : BM mg) (hz : mg "zip" = none) (Z : HC K mg C fi fb di db) (Y : HP K C fw ff dw df) (Cs : DF K mg "check_side" sChkSide ["walls", "side"] fC dC) (S : DF K mg "sides_of" sSides ["walls"] fS dS) (O : DF K mg "other" sOther ["side"] fO dO) (By : DF K mg "by_walls" sByWalls ["walls", "sides"] fBy dBy)
    (So : DF K mg "sides_over" sSidesO ["into", "sides"] fSo dSo) (Ke : DF K mg "keeps_forcing" sKeeps ["hall", "into"] fKe dKe) (Go : DF K mg "goes_over" sGoesO ["walls", "turn"] fGo dGo) (F : Fun K "is_turn" "is_turn" sIsTurn f fd) : FnOk P w K mg base CX0 (k + 5) f fd ["hall", "turn"] (spIsTurn C) := by
  have GK : FnOk P w K mg base CX0 (k + 4) fKe dKe ["hall", "into"] (spKeeps C) := ok_keeps B Z Y Cs S O By So Ke.F
  have GW : FnOk P w K mg base CX0 (k + 1) fw dw ["self"] (spHwalls C) := ok_Hwalls Z Y
  have GG : FnOk P w K mg base CX0 (k + 2) fGo dGo ["walls", "turn"] spGoesO := ok_goesO hz O Go.F
  refine F.ok scIsTurn (fun vs H Q E h => ?_) (fun cdv A outer st H vs Q E hr h => ?_)
  · obtain ⟨x, dx, sb, D, l, ys, fo, bs, t, rfl, _⟩ := h
    rfl
  · obtain ⟨x, dx, sb, D, l, ys, fo, bs, t, rfl, hN, ha, hn, q⟩ := h
    have nd := scIsTurn.nd
    have hF := hN.F
    have g := hF.G.g
    have hA := hF.G.hA
    have r1 : Room (k + 1) _ := hr.mono (by omega)
    have r2 : Room (k + 2) _ := hr.mono (by omega)
    have hl12 := g.hi
    have la : ∀ c ∈ l, c < 128 := g.asc
    refine ⟨_, pss_cons (ps_set (i := 2) nd rfl (.inl rfl) (pe_meth0 (pv 0) Z.cl Y.mw GW r1 Y.bw .nil pass0))
      (pss_cons (ps_if (PW.pt (pw_or (pt_cmpR op_ne (pe_callB call_len_str (by rfl) B.len PySem.boot_len (pa_cons (pv 1) pa_nil)) (pe_callB call_len_str (by rfl) B.len PySem.boot_len (pa_cons (pv 2) pa_nil)) (nomark _))
          (pw_or1 (pt_cmpR (op_neD hr.units) (pe_callB (cr_sortedT rfl) (by rfl) B.sorted (by decide +kernel) (pa_cons (pe_lower (pv 1)) pa_nil)) (pe_callTy (cr_listS rfl) (by rfl) B.list (by decide +kernel) (pa_cons (pv 2) pa_nil)) (nomark _)))))
        (pss_one (ps_ret pe_bl)) pss_nil)
      (pss_one (ps_ret (pe_call GK hr rfl Ke.g Ke.F.kp Ke.b .nil pass0 (pa_cons (pv 0) (pa_cons (pe_call GG r2 rfl Go.g Go.F.kp Go.b .nil pass0 (pa_cons (pv 2) (pa_cons (pv 1) pa_nil))) pa_nil)))))), ?_⟩
    refine ⟨_, rfl, x, dx, _, rfl, hA.x, rfl, x, dx, sb, D, l, ys, fo, rfl, hA, ?_⟩
    have ts : (tx t).length ≤ sizeLine := by rw [tx_len, sizeLine_eq]; omega
    have ls : (tx l).length ≤ sizeLine := by rw [tx_len, sizeLine_eq]; omega
    refine ⟨_, rfl, _, rfl, ts, _, rfl, _, rfl, ls, rfl, _, rfl, ?_⟩
    refine ite2 (fun e => ?_) (fun e => ?_)
    · have ne : t.length ≠ l.length := fun z => by
        rw [tx_len, tx_len, z] at e
        simp at e
      exact iteT (q H false (L2.Same.refl _) ⟨nofun, fun z => absurd z.1.len ne⟩)
    · have el : t.length = l.length := by
        rw [tx_len, tx_len] at e
        simp only [Bool.not_eq_true, Bool.not_eq_false', decide_eq_true_eq] at e
        have := V.int.inj e
        omega
      refine ⟨_, rfl, ⟨_, rfl⟩, tx t, rfl, rfl, by rw [tx_len]; omega, ?_⟩
      rw [lower_tx ha]
      refine ⟨_, rfl, by rw [tx_len, List.length_map]; omega, fun zs p pm so np => ?_⟩
      rw [sgs_tx] at pm
      refine ⟨_, rfl, _, rfl, ls, fun p2 np2 => ?_⟩
      rw [sgs_tx]
      have s1 : Same H (upd H p (.lst (zs.map V.str))) := same_upd np
      have s2 : Same H (upd (upd H p (.lst (zs.map V.str))) p2 (.lst ((l.map sg).map V.str))) := sm_upd s1 np2
      have e2 : (upd (upd H p (.lst (zs.map V.str))) p2 (.lst ((l.map sg).map V.str))) p = some (.lst (zs.map V.str)) := by rw [upd_ne (ne_of_none upd_same np2), upd_same]
      have oks : ∀ y ∈ zs, okS y := fun y hy => by
        obtain ⟨c, hc, rfl⟩ := List.mem_map.mp (pm.mem_iff.mp hy)
        obtain ⟨d, hd, rfl⟩ := List.mem_map.mp hc
        exact okS_sg (by have := ha d hd; unfold lwc; split <;> omega)
      have okl : ∀ y ∈ l.map sg, okS y := fun y hy => by
        obtain ⟨c, hc, rfl⟩ := List.mem_map.mp hy
        exact okS_sg (la c hc)
      refine ⟨_, _, .lst (SqL.of e2) (dpAll_strs zs), .lst (SqL.of upd_same) (dpAll_strs (l.map sg)), shaped_strs oks, shaped_strs okl, _, rfl, ?_⟩
      have ee : PyData.eqv (.list (zs.map .str)) (.list ((l.map sg).map .str)) = decide (zs = l.map sg) := eqvAll_strs _ _
      rw [ee]
      have sp := sorted_perm g pm so
      refine ite2 (fun e3 => ?_) (fun e3 => ?_)
      · refine q _ false s2 ⟨nofun, fun z => ?_⟩
        rw [decide_eq_true (sp.mpr z.1.pm)] at e3
        cases e3
      · have T : Trn l t := ⟨el, sp.mp (by simpa using e3)⟩
        generalize upd (upd H p (.lst (zs.map V.str))) p2 (.lst ((l.map sg).map V.str)) = H2 at s2 ⊢
        refine ⟨_, rfl, _, rfl, _, rfl, l, t, rfl, g, el, ha, fun H3 J s3 nJ eJ => ?_⟩
        have s03 := sm_trans s2 s3
        have hF3 := hF.same s03
        have nJD : J ≠ D := Ne.symm (ne_of_none (s2 _ _ hA.D) nJ)
        refine ⟨x, dx, sb, D, l, ys, fo, bs, J, t, rfl, hF3, T, nJD, eJ, fun H4 b s4 hb => ?_⟩
        refine q H4 b (sm_trans s03 s4) (hb.trans ⟨fun kf => ⟨T, fun r hr => keep_rooms g hF.G.bar hF.hf hF.G.ok T kf hr⟩, fun z s hs => keep_forcing g hF.G.bar hF.hf hF.G.ok hN.nf T z.2 hs⟩)
end
end NC
namespace NC
open PySem PySem.Spec PyProof.Rows L2
abbrev sChkT : Stmt := topS 45
abbrev sTurned : Stmt := topS 46
abbrev sOver : Stmt := topS 47
abbrev sBehind : Stmt := topS 48
theorem scChkT : FnScope ["hall", "turn"] ["hall", "turn"] (defScope sChkT) := ⟨rfl, rfl, rfl, by decide +kernel, rfl, by decide +kernel, by decide +kernel⟩
theorem scTurned : FnScope ["hall", "turn", "room", "into"] ["hall", "turn", "room"] (defScope sTurned) := ⟨rfl, rfl, rfl, by decide +kernel, rfl, by decide +kernel, by decide +kernel⟩
theorem scOver : FnScope ["hall", "turn", "part", "into"] ["hall", "turn", "part"] (defScope sOver) := ⟨rfl, rfl, rfl, by decide +kernel, rfl, by decide +kernel, by decide +kernel⟩
theorem scBehind : FnScope ["hall", "one", "two"] ["hall", "one", "two"] (defScope sBehind) := ⟨rfl, rfl, rfl, by decide +kernel, rfl, by decide +kernel, by decide +kernel⟩
/-- what the functions of turns ask for in the text -/
structure TT_ (K : PySem.W.Frag) (mg : Str → Option Value) (fGo fSo fKe fIs fCt : Addr) (dGo dSo dKe dIs dCt : FuncData) : Prop where
  go : DF K mg "goes_over" sGoesO ["walls", "turn"] fGo dGo
  so : DF K mg "sides_over" sSidesO ["into", "sides"] fSo dSo
  ke : DF K mg "keeps_forcing" sKeeps ["hall", "into"] fKe dKe
  is_ : DF K mg "is_turn" sIsTurn ["hall", "turn"] fIs dIs
  ct : DF K mg "checked_turn" sChkT ["hall", "turn"] fCt dCt
  mz : mg "zip" = none
section
variable {P : Program} {w : World} {K : PySem.W.Frag} {mg : Str → Option Value} {base : Heap} {C fi fb fm fr fg fw ff : Addr} {di db dm dr dg dw df : FuncData} {fGo fSo fKe fIs fCt : Addr} {dGo dSo dKe dIs dCt : FuncData} {fC fS fO fBy : Addr} {dC dS dO dBy : FuncData}
def spChkT (C : Addr) : Sp := fun vs H Q _ => ∃ x dx sb D l ys fo bs t, vs = [.ref x, .str (tx t)] ∧ HallN C H x dx sb D l ys fo bs ∧ TurnOk l bs t ∧ ∀ H' J, Same H H' → H J = none → H' J = some (.dK (ovK l t)) → Q (.ref J) H'
theorem ok_chkT {f : Addr} {fd : FuncData} {k : Nat} (B : BM mg) (Z : HC K mg C fi fb di db) (Y : HP K C fw ff dw df) (Cs : DF K mg "check_side" sChkSide ["walls", "side"] fC dC) (S : DF K mg "sides_of" sSides ["walls"] fS dS) (O : DF K mg "other" sOther ["side"] fO dO) (By : DF K mg "by_walls" sByWalls ["walls", "sides"] fBy dBy) (U : TT_ K mg fGo fSo fKe fIs fCt dGo dSo dKe dIs dCt)
    (F : Fun K "checked_turn" "checked_turn" sChkT f fd) : FnOk P w K mg base CX0 (k + 6) f fd ["hall", "turn"] (spChkT C) := by
  have GI : FnOk P w K mg base CX0 (k + 5) fIs dIs ["hall", "turn"] (spIsTurn C) := ok_isTurn B U.mz Z Y Cs S O By U.so U.ke U.go U.is_.F
  have GW : FnOk P w K mg base CX0 (k + 1) fw dw ["self"] (spHwalls C) := ok_Hwalls Z Y
  have GG : FnOk P w K mg base CX0 (k + 2) fGo dGo ["walls", "turn"] spGoesO := ok_goesO U.mz O U.go.F
  refine F.ok scChkT (fun vs H Q E h => ?_) (fun cdv A outer st H vs Q E hr h => ?_)
  · obtain ⟨x, dx, sb, D, l, ys, fo, bs, t, rfl, _⟩ := h
    rfl
  · obtain ⟨x, dx, sb, D, l, ys, fo, bs, t, rfl, hN, tok, q⟩ := h
    have nd := scChkT.nd
    have g := hN.F.G.g
    have r1 : Room (k + 1) _ := hr.mono (by omega)
    have r2 : Room (k + 2) _ := hr.mono (by omega)
    have ta : ∀ c ∈ t, c < 128 := fun c hc => (sds_lt g (trn_sd g tok.1 hc)).asc
    have tl : t.length ≤ 60 := by rw [tok.1.len]; have := g.hi; omega
    refine ⟨_, pss_cons (ps_if (pt_not (pt_val (pe_call GI hr rfl U.is_.g U.is_.F.kp U.is_.b .nil pass0 (pa_cons (pv 0) (pa_cons (pv 1) pa_nil))))) (pss_one ps_dead) pss_nil)
      (pss_one (ps_ret (pe_call GG r2 rfl U.go.g U.go.F.kp U.go.b .nil pass0 (pa_cons (pe_meth0 (pv 0) Z.cl Y.mw GW r1 Y.bw .nil pass0) (pa_cons (pv 1) pa_nil))))), ?_⟩
    refine ⟨_, rfl, _, rfl, x, dx, sb, D, l, ys, fo, bs, t, rfl, hN, ta, tl, fun H1 b s1 hb => ?_⟩
    have e : b = true := hb.mpr tok
    subst e
    have hA := (hN.same s1).F.G.hA
    refine ⟨_, rfl, iteF ?_⟩
    refine ⟨_, rfl, x, dx, _, rfl, hA.x, rfl, x, dx, sb, D, l, ys, fo, rfl, hA, ?_⟩
    exact ⟨_, rfl, l, t, rfl, g, tok.1.len, ta, fun H2 J s2 nJ eJ => q H2 J (sm_trans s1 s2) (L2.Same.free s1 nJ) eJ⟩
end
end NC
namespace NC
open PySem PySem.Spec PyProof.Rows L2
abbrev sBRinit : Stmt := inClass (topS 8) 0
theorem scBR : FnScope ["self"] ["self"] (defScope sBRinit) := ⟨rfl, rfl, rfl, by decide +kernel, rfl, by decide +kernel, by decide +kernel⟩
/-- a refusal of its word alone -/
def sp0 (K : PySem.W.Frag) (word : Str) : Sp := fun vs H Q _ => ∃ a C, vs = [.ref a] ∧ OexC K C ∧ PySem.W.findIn K (.ref C) "word" = some none ∧ H a = some (exo a C none) ∧
  ∀ dx H', H dx = none → dx ≠ a → (∀ b, b ≠ dx → b ≠ a → H' b = H b) → H' a = some (exo a C (some dx)) → H' dx = some (exd dx [("word", .str word)]) → Q .non H'
structure XC0 (K : PySem.W.Frag) (mg : Str → Option Value) (x q : Str) (st : Stmt) (C fI : Addr) (fd : FuncData) : Prop where
  gC : mg x = some (.ref C)
  O : OexC K C
  hw : PySem.W.findIn K (.ref C) "word" = some none
  iC : PySem.W.findIn K (.ref C) "__init__" = some (some (.ref fI))
  tI : PySem.W.typeIn K (.ref fI) = some (.type "function")
  F : Fun K "__init__" q st fI fd
  b : Binds K fd ["self"] []
theorem mk0 {K : PySem.W.Frag} {C : Addr} {word : Str} (hO : OexC K C) (hw : PySem.W.findIn K (.ref C) "word" = some none) {H1 : Hp} {Q : XK}
    (q : ∀ d H', Same H1 H' → H1 d = none → H' d = some (.xd [("word", .str word)]) → Q (.ref C) (some d) H') :
    ∀ a, H1 a = none → sp0 K word (.ref a :: ([] ++ [])) (upd H1 a (exo a C none))
      (fun u H2 => u = .non ∧ ∃ (d : Addr) (fs : List (Str × V)), H2 a = some (exo a C (some d)) ∧ H2 d = some (exd d fs) ∧ H1 d = none ∧ Q (.ref C) (some d) (upd (del H2 a) d (.xd fs))) (fun _ _ _ => False) := by
  intro a na
  refine ⟨a, C, rfl, hO, hw, upd_same, fun dx H' n1 n2 k e1 e2 => ?_⟩
  have hd : H1 dx = none := by
    rw [upd_ne n2] at n1
    exact n1
  refine ⟨rfl, dx, _, e1, e2, hd, q dx _ (fun b o hb => ?_) hd upd_same⟩
  have b1 : b ≠ dx := ne_of_none hb hd
  have b2 : b ≠ a := ne_of_none hb na
  rw [upd_ne b1, del_ne b2, k b b1 b2, upd_ne b2]
  exact hb
section
variable {P : Program} {w : World} {K : PySem.W.Frag} {mg : Str → Option Value} {base : Heap}
theorem ok_BR {CH fH f : Addr} {fd fdH : FuncData} {k : Nat} (T : HE K mg CH fH fdH) (F : Fun K "__init__" "BadRoom.__init__" sBRinit f fd) : FnOk P w K mg base CX0 (k + 2) f fd ["self"] (sp0 K "badroom") := by
  have GH : FnOk P w K mg base CX0 (k + 1) fH fdH ["self", "word"] (spHE K) := ok_HE T
  obtain ⟨mc, rd, fc⟩ := T.rd
  refine F.ok scBR (fun vs H Q E h => ?_) (fun cdv A outer s H vs Q E hr h => ?_)
  · obtain ⟨a, C, rfl, _⟩ := h
    rfl
  · obtain ⟨a, C, rfl, hO, hw, ha, q⟩ := h
    refine ⟨_, pss_one (ps_expr (pe_clsfn (by rfl) T.gC rd fc GH hr T.F.kp T.b .nil pass0 (pa_cons (pv 0) (pa_cons pe_str pa_nil)))), ?_⟩
    refine ⟨_, rfl, a, C, _, rfl, hO, hw, ha, fun dx n ne => q dx _ n ne (fun b h1 h2 => ?_) upd_same ?_⟩
    · rw [upd_ne h2, upd_ne h1]
    · rw [upd_ne ne, upd_same]
end
end NC
namespace NC
open PySem PySem.Spec PyProof.Rows L2
section
variable {P : Program} {w : World} {K : PySem.W.Frag} {mg : Str → Option Value} {base : Heap} {C fi fb fm fr fg : Addr} {di db dm dr dg : FuncData} {fc fdo fst fwa fne CR iR CH fH : Addr} {dc ddo dst dwa dne eR fdH : FuncData}
abbrev Bad (CR : Addr) (H : Hp) (E : XK) : Prop := ∀ H' d, Same H H' → H d = none → H' d = some (.xd [("word", .str "badroom")]) → E (.ref CR) (some d) H'
theorem Bad.later {CR : Addr} {H H1 : Hp} {E : XK} (b : Bad CR H E) (s : Same H H1) : Bad CR H1 E := fun H' d sm n e => b H' d (sm_trans s sm) (L2.Same.free s n) e
def spChkRoomX (C CR : Addr) : Sp := fun vs H Q E => ∃ x dx sb D l ys fo bs r, vs = [.ref x, .str (tx r)] ∧ HallG C H x dx sb D l ys fo bs ∧ (∀ c ∈ r, c < 128) ∧ r.length ≤ 100 ∧ (r ∈ rms l bs → ∀ H', Same H H' → Q .non H') ∧ (r ∉ rms l bs → Bad CR H E)
theorem ok_chkRoomX {k : Nat} (hany : mg "any" = none) (Z : HC K mg C fi fb di db) (M : HM K C fm fr fg dm dr dg) (F : Fun K "check_room" "check_room" sChkRoom fc dc) (T : HE K mg CH fH fdH) (X : XC0 K mg "BadRoom" "BadRoom.__init__" sBRinit CR iR eR) :
    FnOk P w K mg base (L2.CX P w) (k + 4) fc dc ["hall", "room"] (spChkRoomX C CR) := by
  have GM : FnOk P w K mg base CX0 (k + 1) fm dm ["self", "room"] (spHroom C) := ok_Hroom hany Z M
  have GB : FnOk P w K mg base CX0 (k + 2) iR eR ["self"] (sp0 K "badroom") := ok_BR T X.F
  refine F.okX scChkRoom (fun vs H Q E h => ?_) (fun cdv A outer st H vs Q E hr h => ?_)
  · obtain ⟨x, dx, sb, D, l, ys, fo, bs, r, rfl, _⟩ := h
    rfl
  · obtain ⟨x, dx, sb, D, l, ys, fo, bs, r, rfl, hG, ra, rl, q, qe⟩ := h
    refine ⟨_, pss_one (ps_if (pt_not (pt_val (pe_meth (pv 0) Z.cl M.mm GM (hr.mono (by omega)) M.bm .nil pass0 (pa_cons (pv 1) pa_nil)))) (pss_one (ps_raise rfl (takes_of rfl rfl rfl rfl) (pmk_oex0 X.O X.iC X.tI GB hr X.b (by rfl) X.gC))) pss_nil), ?_⟩
    refine ⟨_, rfl, x, dx, _, rfl, hG.hA.x, rfl, _, rfl, x, dx, sb, D, l, ys, fo, bs, r, rfl, hG.hA, hG.g, hG.bar, hG.perm, hG.len, ra, rl, fun H1 s1 => ⟨_, rfl, ?_⟩⟩
    by_cases hm : r ∈ rms l bs
    · rw [decide_eq_true hm]
      exact iteF (q hm H1 s1)
    · rw [decide_eq_false hm]
      exact iteT ⟨Nat.zero_le _, mk0 X.O X.hw fun d H4 s4 n4 e4 => qe hm H4 d (sm_trans s1 s4) (L2.Same.free s1 n4) e4⟩
end
end NC
namespace NC
open PySem PySem.Spec PyProof.Rows L2
abbrev sBTinit : Stmt := inClass (topS 11) 0
abbrev sBack : Stmt := topS 49
abbrev sRound : Stmt := topS 50
abbrev sOfTurn : Stmt := topS 68
theorem scBT : FnScope ["self"] ["self"] (defScope sBTinit) := ⟨rfl, rfl, rfl, by decide +kernel, rfl, by decide +kernel, by decide +kernel⟩
theorem scBack : FnScope ["hall", "turn", "into", "back", "side"] ["hall", "turn"] (defScope sBack) := ⟨rfl, rfl, rfl, by decide +kernel, rfl, by decide +kernel, by decide +kernel⟩
theorem scRound : FnScope ["hall", "turn", "into", "many", "behind"] ["hall", "turn"] (defScope sRound) := ⟨rfl, rfl, rfl, by decide +kernel, rfl, by decide +kernel, by decide +kernel⟩
theorem scOfTurn : FnScope ["hall", "turn"] ["hall", "turn"] (defScope sOfTurn) := ⟨rfl, rfl, rfl, by decide +kernel, rfl, by decide +kernel, by decide +kernel⟩
/-- a refusal of this class and word, whatever its fields -/
abbrev BadF (CR : Addr) (w : Str) (H : Hp) (E : XK) : Prop := ∀ (fs : List (Str × V)) (H' : Hp) (d : Addr), Same H H' → H d = none → H' d = some (.xd fs) → fs.lookup (Str.ofString "word") = some (V.str w) → E (.ref CR) (some d) H'
theorem BadF.later {CR : Addr} {w : Str} {H H1 : Hp} {E : XK} (b : BadF CR w H E) (s : Same H H1) : BadF CR w H1 E := fun fs H' d sm n e l => b fs H' d (sm_trans s sm) (L2.Same.free s n) e l
section
variable {P : Program} {w : World} {K : PySem.W.Frag} {mg : Str → Option Value} {base : Heap} {C fi fb fm fr fg fw ff : Addr} {di db dm dr dg dw df : FuncData} {fGo fSo fKe fIs fCt : Addr} {dGo dSo dKe dIs dCt : FuncData} {fC fS fO fBy : Addr} {dC dS dO dBy : FuncData} {CT iT CH fH : Addr} {eT fdH : FuncData}
theorem ok_BT {f : Addr} {fd : FuncData} {k : Nat} (T : HE K mg CH fH fdH) (F : Fun K "__init__" "BadTurn.__init__" sBTinit f fd) : FnOk P w K mg base CX0 (k + 2) f fd ["self"] (sp0 K "badturn") := by
  have GH : FnOk P w K mg base CX0 (k + 1) fH fdH ["self", "word"] (spHE K) := ok_HE T
  obtain ⟨mc, rd, fc⟩ := T.rd
  refine F.ok scBT (fun vs H Q E h => ?_) (fun cdv A outer s H vs Q E hr h => ?_)
  · obtain ⟨a, C, rfl, _⟩ := h
    rfl
  · obtain ⟨a, C, rfl, hO, hw, ha, q⟩ := h
    refine ⟨_, pss_one (ps_expr (pe_clsfn (by rfl) T.gC rd fc GH hr T.F.kp T.b .nil pass0 (pa_cons (pv 0) (pa_cons pe_str pa_nil)))), ?_⟩
    refine ⟨_, rfl, a, C, _, rfl, hO, hw, ha, fun dx n ne => q dx _ n ne (fun b h1 h2 => ?_) upd_same ?_⟩
    · rw [upd_ne h2, upd_ne h1]
    · rw [upd_ne ne, upd_same]
/-- a text that is no turn of the hall, at the place j of what is handed -/
def NoT (C CT : Addr) (H : Hp) (x : Addr) (v : V) (E : XK) : Prop := ∃ dx sb D l ys fo bs t, v = .str (tx t) ∧ HallN C H x dx sb D l ys fo bs ∧ (∀ c ∈ t, c < 128) ∧ t.length ≤ 60 ∧ ¬ TurnOk l bs t ∧ BadF CT "badturn" H E
theorem NoT.later {C CT x : Addr} {H H1 : Hp} {v : V} {E : XK} (b : NoT C CT H x v E) (s : Same H H1) : NoT C CT H1 x v E := by
  obtain ⟨dx, sb, D, l, ys, fo, bs, t, e, hN, ta, tl, no, q⟩ := b
  exact ⟨dx, sb, D, l, ys, fo, bs, t, e, hN.same s, ta, tl, no, q.later s⟩
def spChkTX (C CT : Addr) : Sp := fun vs H _ E => ∃ x v, vs = [.ref x, v] ∧ NoT C CT H x v E
theorem ok_chkTX {f : Addr} {fd : FuncData} {k : Nat} (B : BM mg) (Z : HC K mg C fi fb di db) (Y : HP K C fw ff dw df) (Cs : DF K mg "check_side" sChkSide ["walls", "side"] fC dC) (S : DF K mg "sides_of" sSides ["walls"] fS dS) (O : DF K mg "other" sOther ["side"] fO dO) (By : DF K mg "by_walls" sByWalls ["walls", "sides"] fBy dBy) (U : TT_ K mg fGo fSo fKe fIs fCt dGo dSo dKe dIs dCt) (T : HE K mg CH fH fdH) (X : XC0 K mg "BadTurn" "BadTurn.__init__" sBTinit CT iT eT)
    (F : Fun K "checked_turn" "checked_turn" sChkT f fd) : FnOk P w K mg base (L2.CX P w) (k + 6) f fd ["hall", "turn"] (spChkTX C CT) := by
  have GI : FnOk P w K mg base CX0 (k + 5) fIs dIs ["hall", "turn"] (spIsTurn C) := ok_isTurn B U.mz Z Y Cs S O By U.so U.ke U.go U.is_.F
  have GB : FnOk P w K mg base CX0 (k + 2) iT eT ["self"] (sp0 K "badturn") := ok_BT T X.F
  refine F.okX scChkT (fun vs H Q E h => ?_) (fun cdv A outer st H vs Q E hr h => ?_)
  · obtain ⟨x, v, rfl, _⟩ := h
    rfl
  · obtain ⟨x, v, rfl, dx, sb, D, l, ys, fo, bs, t, rfl, hN, ta, tl, no, qe⟩ := h
    refine ⟨_, pss_cons (ps_if (pt_not (pt_val (pe_call GI (hr.mono (by omega)) rfl U.is_.g U.is_.F.kp U.is_.b .nil pass0 (pa_cons (pv 0) (pa_cons (pv 1) pa_nil))))) (pss_one (ps_raise rfl (takes_of rfl rfl rfl rfl) (pmk_oex0 X.O X.iC X.tI GB (hr.mono (by omega)) X.b (by rfl) X.gC))) pss_nil)
      (pss_one ps_dead), ?_⟩
    refine ⟨_, rfl, _, rfl, x, dx, sb, D, l, ys, fo, bs, t, rfl, hN, ta, tl, fun H1 b s1 hb => ?_⟩
    have e : b = false := by
      cases b with
      | false => rfl
      | true => exact absurd (hb.mp rfl) no
    subst e
    exact ⟨_, rfl, iteT ⟨Nat.zero_le _, mk0 X.O X.hw fun d H4 s4 n4 e4 => qe _ H4 d (sm_trans s1 s4) (L2.Same.free s1 n4) e4 rfl⟩⟩
def spTurnedX (C CT : Addr) : Sp := fun vs H _ E => ∃ x v w2, vs = [.ref x, v, w2] ∧ NoT C CT H x v E
theorem ok_TurnedX {f : Addr} {fd : FuncData} {k : Nat} (B : BM mg) (Z : HC K mg C fi fb di db) (Y : HP K C fw ff dw df) (Cs : DF K mg "check_side" sChkSide ["walls", "side"] fC dC) (S : DF K mg "sides_of" sSides ["walls"] fS dS) (O : DF K mg "other" sOther ["side"] fO dO) (By : DF K mg "by_walls" sByWalls ["walls", "sides"] fBy dBy) (U : TT_ K mg fGo fSo fKe fIs fCt dGo dSo dKe dIs dCt) (T : HE K mg CH fH fdH) (X : XC0 K mg "BadTurn" "BadTurn.__init__" sBTinit CT iT eT)
    (F : Fun K "turned" "turned" sTurned f fd) : FnOk P w K mg base (L2.CX P w) (k + 7) f fd ["hall", "turn", "room"] (spTurnedX C CT) := by
  have GT : FnOk P w K mg base (L2.CX P w) (k + 6) fCt dCt ["hall", "turn"] (spChkTX C CT) := ok_chkTX B Z Y Cs S O By U T X U.ct.F
  refine F.okX scTurned (fun vs H Q E h => ?_) (fun cdv A0 outer st H vs Q E hr h => ?_)
  · obtain ⟨x, v, w2, rfl, _⟩ := h
    rfl
  · obtain ⟨x, v, w2, rfl, h⟩ := h
    refine ⟨_, pss_cons (ps_set (i := 3) scTurned.nd rfl (.inl rfl) (pe_call (E := E) GT (hr.mono (by omega)) rfl U.ct.g U.ct.F.kp U.ct.b .nil (passes_call (takes_of rfl rfl rfl rfl) (fun _ _ _ _ h => h)) (pa_cons (pv 0) (pa_cons (pv 1) pa_nil))))
      (pss_cons ps_dead (pss_one ps_dead)), ?_⟩
    exact ⟨_, rfl, _, rfl, x, v, rfl, h⟩
def spOverX (C CT : Addr) : Sp := fun vs H _ E => ∃ x v w2, vs = [.ref x, v, w2] ∧ NoT C CT H x v E
theorem ok_OverX {f : Addr} {fd : FuncData} {k : Nat} (B : BM mg) (Z : HC K mg C fi fb di db) (Y : HP K C fw ff dw df) (Cs : DF K mg "check_side" sChkSide ["walls", "side"] fC dC) (S : DF K mg "sides_of" sSides ["walls"] fS dS) (O : DF K mg "other" sOther ["side"] fO dO) (By : DF K mg "by_walls" sByWalls ["walls", "sides"] fBy dBy) (U : TT_ K mg fGo fSo fKe fIs fCt dGo dSo dKe dIs dCt) (T : HE K mg CH fH fdH) (X : XC0 K mg "BadTurn" "BadTurn.__init__" sBTinit CT iT eT)
    (F : Fun K "over" "over" sOver f fd) : FnOk P w K mg base (L2.CX P w) (k + 7) f fd ["hall", "turn", "part"] (spOverX C CT) := by
  have GT : FnOk P w K mg base (L2.CX P w) (k + 6) fCt dCt ["hall", "turn"] (spChkTX C CT) := ok_chkTX B Z Y Cs S O By U T X U.ct.F
  refine F.okX scOver (fun vs H Q E h => ?_) (fun cdv A0 outer st H vs Q E hr h => ?_)
  · obtain ⟨x, v, w2, rfl, _⟩ := h
    rfl
  · obtain ⟨x, v, w2, rfl, h⟩ := h
    refine ⟨_, pss_cons (ps_set (i := 3) scOver.nd rfl (.inl rfl) (pe_call (E := E) GT (hr.mono (by omega)) rfl U.ct.g U.ct.F.kp U.ct.b .nil (passes_call (takes_of rfl rfl rfl rfl) (fun _ _ _ _ h => h)) (pa_cons (pv 0) (pa_cons (pv 1) pa_nil))))
      (pss_cons ps_dead (pss_one ps_dead)), ?_⟩
    exact ⟨_, rfl, _, rfl, x, v, rfl, h⟩
def spBackX (C CT : Addr) : Sp := fun vs H _ E => ∃ x v, vs = [.ref x, v] ∧ NoT C CT H x v E
theorem ok_BackX {f : Addr} {fd : FuncData} {k : Nat} (B : BM mg) (Z : HC K mg C fi fb di db) (Y : HP K C fw ff dw df) (Cs : DF K mg "check_side" sChkSide ["walls", "side"] fC dC) (S : DF K mg "sides_of" sSides ["walls"] fS dS) (O : DF K mg "other" sOther ["side"] fO dO) (By : DF K mg "by_walls" sByWalls ["walls", "sides"] fBy dBy) (U : TT_ K mg fGo fSo fKe fIs fCt dGo dSo dKe dIs dCt) (T : HE K mg CH fH fdH) (X : XC0 K mg "BadTurn" "BadTurn.__init__" sBTinit CT iT eT)
    (F : Fun K "back_turn" "back_turn" sBack f fd) : FnOk P w K mg base (L2.CX P w) (k + 7) f fd ["hall", "turn"] (spBackX C CT) := by
  have GT : FnOk P w K mg base (L2.CX P w) (k + 6) fCt dCt ["hall", "turn"] (spChkTX C CT) := ok_chkTX B Z Y Cs S O By U T X U.ct.F
  refine F.okX scBack (fun vs H Q E h => ?_) (fun cdv A0 outer st H vs Q E hr h => ?_)
  · obtain ⟨x, v, rfl, _⟩ := h
    rfl
  · obtain ⟨x, v, rfl, h⟩ := h
    refine ⟨_, pss_cons (ps_set (i := 2) scBack.nd rfl (.inr rfl) (pe_call (E := E) GT (hr.mono (by omega)) rfl U.ct.g U.ct.F.kp U.ct.b .nil (passes_call (takes_of rfl rfl rfl rfl) (fun _ _ _ _ h => h)) (pa_cons (pv 0) (pa_cons (pv 1) pa_nil))))
      (pss_cons ps_dead (pss_one ps_dead)), ?_⟩
    exact ⟨_, rfl, _, rfl, x, v, rfl, h⟩
def spRoundX (C CT : Addr) : Sp := fun vs H _ E => ∃ x v, vs = [.ref x, v] ∧ NoT C CT H x v E
theorem ok_RoundX {f : Addr} {fd : FuncData} {k : Nat} (B : BM mg) (Z : HC K mg C fi fb di db) (Y : HP K C fw ff dw df) (Cs : DF K mg "check_side" sChkSide ["walls", "side"] fC dC) (S : DF K mg "sides_of" sSides ["walls"] fS dS) (O : DF K mg "other" sOther ["side"] fO dO) (By : DF K mg "by_walls" sByWalls ["walls", "sides"] fBy dBy) (U : TT_ K mg fGo fSo fKe fIs fCt dGo dSo dKe dIs dCt) (T : HE K mg CH fH fdH) (X : XC0 K mg "BadTurn" "BadTurn.__init__" sBTinit CT iT eT)
    (F : Fun K "round_of" "round_of" sRound f fd) : FnOk P w K mg base (L2.CX P w) (k + 7) f fd ["hall", "turn"] (spRoundX C CT) := by
  have GT : FnOk P w K mg base (L2.CX P w) (k + 6) fCt dCt ["hall", "turn"] (spChkTX C CT) := ok_chkTX B Z Y Cs S O By U T X U.ct.F
  refine F.okX scRound (fun vs H Q E h => ?_) (fun cdv A0 outer st H vs Q E hr h => ?_)
  · obtain ⟨x, v, rfl, _⟩ := h
    rfl
  · obtain ⟨x, v, rfl, h⟩ := h
    refine ⟨_, pss_cons (ps_set (i := 2) scRound.nd rfl (.inl rfl) (pe_call (E := E) GT (hr.mono (by omega)) rfl U.ct.g U.ct.F.kp U.ct.b .nil (passes_call (takes_of rfl rfl rfl rfl) (fun _ _ _ _ h => h)) (pa_cons (pv 0) (pa_cons (pv 1) pa_nil))))
      (pss_cons ps_dead (pss_cons ps_dead (pss_cons ps_dead (pss_one ps_dead)))), ?_⟩
    exact ⟨_, rfl, _, rfl, x, v, rfl, h⟩
def spBehind1X (C CT : Addr) : Sp := fun vs H _ E => ∃ x v w2, vs = [.ref x, v, w2] ∧ NoT C CT H x v E
theorem ok_Behind1X {f : Addr} {fd : FuncData} {k : Nat} (B : BM mg) (Z : HC K mg C fi fb di db) (Y : HP K C fw ff dw df) (Cs : DF K mg "check_side" sChkSide ["walls", "side"] fC dC) (S : DF K mg "sides_of" sSides ["walls"] fS dS) (O : DF K mg "other" sOther ["side"] fO dO) (By : DF K mg "by_walls" sByWalls ["walls", "sides"] fBy dBy) (U : TT_ K mg fGo fSo fKe fIs fCt dGo dSo dKe dIs dCt) (T : HE K mg CH fH fdH) (X : XC0 K mg "BadTurn" "BadTurn.__init__" sBTinit CT iT eT)
    (F : Fun K "turn_behind" "turn_behind" sBehind f fd) : FnOk P w K mg base (L2.CX P w) (k + 7) f fd ["hall", "one", "two"] (spBehind1X C CT) := by
  have GT : FnOk P w K mg base (L2.CX P w) (k + 6) fCt dCt ["hall", "turn"] (spChkTX C CT) := ok_chkTX B Z Y Cs S O By U T X U.ct.F
  refine F.okX scBehind (fun vs H Q E h => ?_) (fun cdv A0 outer st H vs Q E hr h => ?_)
  · obtain ⟨x, v, w2, rfl, _⟩ := h
    rfl
  · obtain ⟨x, v, w2, rfl, h⟩ := h
    refine ⟨_, pss_cons (ps_expr (pe_call (E := E) GT (hr.mono (by omega)) rfl U.ct.g U.ct.F.kp U.ct.b .nil (passes_call (takes_of rfl rfl rfl rfl) (fun _ _ _ _ h => h)) (pa_cons (pv 0) (pa_cons (pv 1) pa_nil))))
      (pss_one ps_dead), ?_⟩
    exact ⟨_, rfl, _, rfl, x, v, rfl, h⟩
end
end NC
namespace NC
open PySem PySem.Spec PyProof.Rows L2
abbrev sShCalls : Stmt := topS 52
theorem scShCalls : FnScope ["hall", "calls", "most", "part"] ["hall", "calls", "most"] (defScope sShCalls) := ⟨rfl, rfl, rfl, by decide +kernel, rfl, by decide +kernel, by decide +kernel⟩
/-- the shut text of a part -/
def shT (l : List Nat) (fo : Nat → List Nat) (P : List Nat) : List Nat := byWT l (allFo fo P)
section
variable {P : Program} {w : World} {K : PySem.W.Frag} {mg : Str → Option Value} {base : Heap} {C fi fb fm fr fg fw ff : Addr} {di db dm dr dg dw df : FuncData}
def spShCalls (K : PySem.W.Frag) (C : Addr) : Sp := fun vs H Q _ => ∃ x dx sb D l ys fo bs a, ∃ (Ps : List (List Nat)), vs = [.ref x, .ref a, .int 12] ∧ HallF C H x dx sb D l ys fo bs ∧ (SqL K H a ((Ps.map tx).map V.str) ∨ SqT K H a ((Ps.map tx).map V.str)) ∧ Ps.length ≤ 12 ∧ (∀ P ∈ Ps, Part l P ∧ ∃ z ∈ rms l bs, ∀ s ∈ P, s ∈ z) ∧
  ∀ H' p, Same H H' → H p = none → H' p = some (.lst (((Ps.map (shT l fo)).map tx).map V.str)) → Q (.ref p) H'
set_option maxHeartbeats 1000000 in
theorem ok_shCalls {f fC fS fO fBy fIsP fChP fAFB fTo fSh : Addr} {fd dC dS dO dBy dIsP dChP dAFB dTo dSh : FuncData} {k : Nat} (B : BM mg) (Z : HC K mg C fi fb di db) (T : PT K mg C fw ff dw df fIsP fChP fAFB fTo dIsP dChP dAFB dTo) (Cs : DF K mg "check_side" sChkSide ["walls", "side"] fC dC) (S : DF K mg "sides_of" sSides ["walls"] fS dS) (O : DF K mg "other" sOther ["side"] fO dO) (By : DF K mg "by_walls" sByWalls ["walls", "sides"] fBy dBy)
    (Sh : DF K mg "shut" sShut ["hall", "part"] fSh dSh) (F : Fun K "shut_calls" "shut_calls" sShCalls f fd) : FnOk P w K mg base CX0 (k + 7) f fd ["hall", "calls", "most"] (spShCalls K C) := by
  have GS : FnOk P w K mg base CX0 (k + 6) fSh dSh ["hall", "part"] (spShut C) := ok_shut B Z T Cs S O By Sh.F
  refine F.ok scShCalls (fun vs H Q E h => ?_) (fun cdv A0 outer st H vs Q E hr h => ?_)
  · obtain ⟨x, dx, sb, D, l, ys, fo, bs, a, Ps, rfl, _⟩ := h
    rfl
  · obtain ⟨x, dx, sb, D, l, ys, fo, bs, a, Ps, rfl, hF, hS, hn, hPs, q⟩ := h
    have nd := scShCalls.nd
    refine ⟨_, pss_cons (ps_if (pt_cmpR op_gt (pe_callB call_len_seq (by rfl) B.len PySem.boot_len (pa_cons (pv 1) pa_nil)) (pv 2) (nomark _)) (pss_one ps_dead) pss_nil)
      (pss_one (ps_ret (pe_lc (own := [("part", 3)]) (g := gName 3) (tt := tYes) (te := tCall (spShut C) [] E0 (tCons (tVar 0) (tCons (tVar 3) tNil))) rfl nd (pi_seq (pv 1)) (blkOk_by (N := ["hall", "calls", "most", "part"]) (sc := defScope sShCalls) (by decide +kernel)) (fun _ _ _ _ _ => pg_name (i := 3) nd rfl (Or.inl rfl)) (fun _ _ _ _ _ => pts_nil)
        (fun _ _ _ _ _ => pe_call GS hr rfl Sh.g Sh.F.kp Sh.b .nil pass0 (pa_cons (pv 0) (pa_cons (pv 3) pa_nil)))))), ?_⟩
    refine ⟨_, rfl, a, _, rfl, hS, _, rfl, _, _, rfl, rfl, _, rfl, ?_⟩
    rw [decide_eq_false (by rw [List.length_map, List.length_map]; omega)]
    refine iteF ?_
    rcases hS with hS | hS
    · have wk := walk_list (K := K) (a := a) (xs := (Ps.map tx).map V.str)
      rw [List.length_map, List.length_map] at wk
      refine ⟨_, rfl, a, rfl, .inl ⟨⟨_, hS⟩, fun Da na => ?_⟩⟩
      refine lc_it wk (fun i H' => Same H H' ∧ H' Da = some (.lst ((((Ps.take i).map (shT l fo)).map tx).map V.str))) ⟨same_upd na, upd_same⟩ (fun i H' _ h => sm_l h.1 hS) ?_ ?_
      · rintro u v G1 G2 hu ⟨u1, e1⟩ ⟨rfl, hx⟩
        rw [List.getElem?_map, List.getElem?_map] at hx
        obtain ⟨z2, hz2, rfl⟩ := Option.map_eq_some_iff.mp hx
        obtain ⟨o, ho2, rfl⟩ := Option.map_eq_some_iff.mp hz2
        obtain ⟨pO, z, hz, hin⟩ := hPs o (List.mem_of_getElem? ho2)
        refine ⟨rfl, yes_i ⟨_, rfl, _, rfl, x, dx, sb, D, l, ys, fo, bs, o, z, rfl, hF.same u1, pO, hz, hin, fun G3 u3 => ⟨_, u3 _ _ e1, ?_, sm_over (sm_trans u1 u3) na, ?_⟩⟩⟩
        · rw [List.length_map, List.length_map, List.length_map, List.length_take, sizeLine_eq]
          omega
        · rw [upd_same, List.take_add_one, ho2, List.map_append, List.map_append, List.map_append]
          rfl
      · rintro H1 ⟨s1, e1⟩
        rw [List.take_length] at e1
        exact q H1 Da s1 na e1
    · have wk := walk_tup (K := K) (a := a) (xs := (Ps.map tx).map V.str)
      rw [List.length_map, List.length_map] at wk
      refine ⟨_, rfl, a, rfl, .inr ⟨⟨_, hS⟩, fun Da na => ?_⟩⟩
      refine lc_it wk (fun i H' => Same H H' ∧ H' Da = some (.lst ((((Ps.take i).map (shT l fo)).map tx).map V.str))) ⟨same_upd na, upd_same⟩ (fun i H' _ h => sm_t h.1 hS) ?_ ?_
      · rintro u v G1 G2 hu ⟨u1, e1⟩ ⟨rfl, hx⟩
        rw [List.getElem?_map, List.getElem?_map] at hx
        obtain ⟨z2, hz2, rfl⟩ := Option.map_eq_some_iff.mp hx
        obtain ⟨o, ho2, rfl⟩ := Option.map_eq_some_iff.mp hz2
        obtain ⟨pO, z, hz, hin⟩ := hPs o (List.mem_of_getElem? ho2)
        refine ⟨rfl, yes_i ⟨_, rfl, _, rfl, x, dx, sb, D, l, ys, fo, bs, o, z, rfl, hF.same u1, pO, hz, hin, fun G3 u3 => ⟨_, u3 _ _ e1, ?_, sm_over (sm_trans u1 u3) na, ?_⟩⟩⟩
        · rw [List.length_map, List.length_map, List.length_map, List.length_take, sizeLine_eq]
          omega
        · rw [upd_same, List.take_add_one, ho2, List.map_append, List.map_append, List.map_append]
          rfl
      · rintro H1 ⟨s1, e1⟩
        rw [List.take_length] at e1
        exact q H1 Da s1 na e1
end
end NC
namespace NC
open PySem PySem.Spec PyProof.Rows L2
theorem note_same {a : Value} {e1 e2 : Env} (h : e1.frame = e2.frame) : noteFrame a e1 = noteFrame a e2 := by
  unfold noteFrame PySem.frameOf
  rw [h]
theorem frames_in {h h2 B B2 : Heap} (k : ∀ L o, B.get? L = none → h.get? L = some o → B2.get? L = none ∧ h2.get? L = some o) : ∀ {l : List Env}, h.FunFrames B l → h2.FunFrames B2 l
  | [], _ => trivial
  | env :: rest, ⟨m, ⟨L, o, e, n, g, d⟩, r⟩ => ⟨m, ⟨L, o, e, (k L o n g).1, (k L o n g).2, d⟩, frames_in k r⟩
theorem fails_of {X : Cx} {W : WX} {E : XK} {ce : Env} {pins : List (Addr × Obj)} {σ : L2.St} {G : Hp} {v s' : Shared} {u : Value} {m : Str → Option Value} (hs : X.stack = X.env :: X.outer) (hf : X.env.frame = some X.env.locals) (cf : ce.frame = X.env.frame) (hfr : X.A.frames = some (X.env :: X.outer)) (tk : Takes X W)
    (I : Inv X pins σ G v) (ns : v.heap.Ns ce.locals m) (fpC : FpOk X pins G ce.locals) (hW : ∀ cls d H', E cls d H' → W cls d σ H') (c : L2.CX X.prog X.w X.stack G v E u s') :
    notedBy (model X.prog X.w) X.A ce (CompFails (model X.prog X.w) X.A X.xe ce) u s' := by
  obtain ⟨a, B, H', cls, d, rfl, fl, hok, ub, na, os, ag, hE⟩ := c
  obtain ⟨oC0, es, ep, hvC, rC⟩ := ns
  have fC : ce.locals ∉ frs X.stack := fun z => (List.mem_cons.mp (I.stkSub _ z)).elim fpC.2.1 fpC.2.2.1
  have bC : B.get? ce.locals = some oC0 := ub.keep _ _ hvC fpC.1 fC
  have stB : B.StaysIn s'.heap := fl.1
  show wpAny (model X.prog X.w) X.A (noteFrame (.ref a) ce) _ _ s'
  rw [note_same cf]
  refine HandSPX.looks_onZ Zc.steady hfr hf (hs ▸ fl) fun h' hh up => ⟨m, ⟨oC0, es, ep, hh.1 _ _ bC, rC⟩, fun h2 m2 ns2 sb => ?_⟩
  obtain ⟨oC, es2, ep2, hC2, _⟩ := ns2
  have aC : a ≠ ce.locals := fun z => by
    have q := fl.2.1
    rw [z, bC] at q
    cases q
  obtain ⟨oe, vs, T, oT, ts, he, hz, hd, h1, hnT, hTe, hT, hdT, h3⟩ := hh.2.2.2
  have TC : T ≠ ce.locals := fun z => by
    rw [z, bC] at hnT
    cases hnT
  have nfr : oC.isFreed = false := (Heap.get?_some_iff.mp hC2).2
  have b2C : (B.update ce.locals fun _ => oC).get? ce.locals = some oC := Heap.get?_update_self _ bC nfr
  have b2o : ∀ b, b ≠ ce.locals → (B.update ce.locals fun _ => oC).get? b = B.get? b := fun b hb => Heap.get?_update_other B _ (Ne.symm hb)
  generalize (B.update ce.locals fun _ => oC) = B2 at b2C b2o
  have st2 : B2.StaysIn h2 := fun b o e => by
    by_cases hb : b = ce.locals
    · rw [hb, b2C] at e
      cases e
      rw [hb]; exact hC2
    · rw [b2o b hb] at e
      rw [sb.2 b hb]
      exact hh.1 _ _ e
  have ff2 : h2.FunFrames B2 (X.env :: X.outer) := frames_in (fun L o n gL => by
    have hb : L ≠ ce.locals := fun z => by
      rw [z, bC] at n
      cases n
    exact ⟨(b2o L hb).trans n, (sb.2 L hb).trans gL⟩) hh.2.2.1
  have he2 : h2.get? a = some oe := (sb.2 a aC).trans he
  have tr2 : HandSPX.TracedZ h2 B2 a (Zc cls d) (rawInt X.env.locals) := ⟨oe, vs, T, oT, ts, he2, hz, hd, h1, (b2o T TC).trans hnT, hTe, (sb.2 T TC).trans hT, hdT, h3⟩
  -- the def's own state, with the block as it stands
  obtain ⟨G0, g1, g2⟩ := restrict s'.heap fun b => (B.get? b).isSome || decide (b ∈ frs X.stack)
  have gB : ∀ b o, B.get? b = some o → G0.get? b = some o := fun b o e => by
    rw [g1 b (by simp [e])]
    exact stB b o e
  have gF : ∀ b, b ∈ frs X.stack → G0.get? b = s'.heap.get? b := fun b hb => g1 b (by simp [hb])
  have gIn : ∀ b o, G0.get? b = some o → s'.heap.get? b = some o ∧ (b ∉ frs X.stack → B.get? b = some o) := fun b o e => by
    cases q : ((B.get? b).isSome || decide (b ∈ frs X.stack)) with
    | false => rw [g2 b q] at e; cases e
    | true =>
      rw [g1 b q] at e
      refine ⟨e, fun hb => ?_⟩
      have q2 : (B.get? b).isSome = true := by simpa [hb] using q
      obtain ⟨o', e'⟩ := Option.isSome_iff_exists.mp q2
      have z := stB b o' e'
      rw [e] at z
      cases z
      exact e'
  have I0 : Inv X pins σ H' { v with heap := G0, gens := s'.gens, drawn := s'.drawn, toks := s'.toks } := by
    refine I.call (ch := []) ⟨fun b o e n hb _ => gB b o (ub.keep b o e n hb), fun b o e n hb _ => ?_, fun b o e n _ => ub.free b o e n, fun b o e _ => ?_, ub.tups, ub.frzs, ub.tbls⟩ (hok.kept gB) ag (fun _ z => nomatch z)
    · obtain ⟨sl, q⟩ := ub.slot b o e hb
      exact ⟨sl, (gF b hb).trans q⟩
    · by_cases hb : b ∈ frs X.stack
      · obtain ⟨sl, q⟩ := ub.slot b o e hb
        exact ⟨_, (gF b hb).trans q⟩
      · obtain ⟨o', q⟩ := ub.there b o e hb
        exact ⟨o', gB b o' q⟩
  have c2C : (G0.update ce.locals fun _ => oC).get? ce.locals = some oC := Heap.get?_update_self _ (gB _ _ bC) nfr
  have c2o : ∀ b, b ≠ ce.locals → (G0.update ce.locals fun _ => oC).get? b = G0.get? b := fun b hb => Heap.get?_update_other G0 _ (Ne.symm hb)
  generalize (G0.update ce.locals fun _ => oC) = G2 at c2C c2o
  have I2 : Inv X pins σ H' { v with heap := G2, gens := s'.gens, drawn := s'.drawn, toks := s'.toks } := I0.turnedL (ch := [ce.locals]) (h' := G2) (t' := s'.toks) (fun b o hb e => (c2o b fun z => hb (by rw [z]; exact List.mem_singleton.mpr rfl)).trans e) fun b hb => by
    rw [List.mem_singleton.mp hb]
    exact ⟨ub.free _ _ hvC fpC.1, fpC.2⟩
  show wpAny (model X.prog X.w) X.A (PySem.passOn "comprehension.variables-let-go" (.ref a) ce : Sem Value) (fun _ _ => False) X.xe _
  unfold PySem.passOn
  rw [cf]
  refine wpAny_bind (wpAny_field he2 hd h1 ?_)
  rw [if_neg (show ¬ ((Value.ref T == Value.none) = true) from by simp)]
  have goOn : wpAny (model X.prog X.w) X.A (setFlight (.ref a) X.env.frame) (fun _ s7 => wpAny (model X.prog X.w) X.A (throw (.ref a) : Sem Value) (fun _ _ => False) X.xe s7) X.xe { s' with heap := h2 } := by
    rw [hf]
    refine HandSPX.setFlight_anyZ st2 ff2 tr2 fun h3' k1 k2 k3 k4 => wpAny_throw (tk _ _ ?_)
    refine ⟨a, B2, { v with heap := G2, gens := s'.gens, drawn := s'.drawn, toks := s'.toks }, pins, σ, H', cls, d, rfl, I2, fun b o e hb => ?_, ?_, .inr (.inr ?_), na, os, ag, hW _ _ _ hE⟩
    · by_cases hC : b = ce.locals
      · rw [hC] at e ⊢
        exact b2C.trans (c2C.symm.trans e)
      · rw [b2o b hC]
        have e' : G0.get? b = some o := (c2o b hC).symm.trans e
        exact (gIn b o e').2 hb
    · refine Heap.UpToSlots.trans (fun b o e nfd => ?_) k4
      by_cases hC : b = ce.locals
      · have e' : G2.get? b = some o := e
        rw [hC, c2C] at e'
        cases e'
        exact ⟨_, by rw [hC]; exact hC2⟩
      · have e' : G0.get? b = some o := (c2o b hC).symm.trans e
        obtain ⟨sl, q⟩ := up b o (gIn b o e').1 nfd
        exact ⟨sl, (sb.2 b hC).trans q⟩
    · rw [hs]
      exact ⟨k1, (b2o a aC).trans fl.2.1, k2, k3⟩
  first
    | exact wpAny_bind (wpAny_pure (wpAny_bind goOn))
    | exact wpAny_bind goOn
end NC
namespace NC
open PySem PySem.Spec PyProof.Rows L2
theorem passes_blk {X : Cx} {W : WX} {E : XK} {pins pn : List (Addr × Obj)} {σ : L2.St} {H : Hp} {s : Shared} {scope : Scope} {ce : Env} {fp : List Addr} (hs : X.stack = X.env :: X.outer) (hf : X.env.frame = some X.env.locals) (cf : ce.frame = X.env.frame) (tk : Takes X W)
    (I : Inv X pins σ H s) (fI : ∀ b ∈ fp, FpOk X pins H b) (cC : s.heap.objs.size ≤ ce.locals) (hW : ∀ cls d H', E cls d H' → W cls d σ H') :
    Passes (L2.CX X.prog X.w) ((X.blk s H scope ce fp).tr pn (notedBy (model X.prog X.w) X.A ce (CompFails (model X.prog X.w) X.A X.xe ce))) E := fun pn' τ G v e s' I1 c => by
  have Ix : Inv X pins σ G v := I.call' (ch := fp) I1.os I1.base I1.hok I1.bare fun b m => ⟨(fI b m).2.2.2.1, (fI b m).2.1, (fI b m).2.2.2.2.1, (fI b m).2.2.2.2.2⟩
  obtain ⟨m, ns, _⟩ := I1.loc
  exact fails_of hs hf cf (by rw [I.ok.frames, hs]) tk Ix ns (I.fpOk cC I1.free) hW c
section
variable {X : Cx} {pins : List (Addr × Obj)} {σ : L2.St} {H : Hp} {s : Shared} {Q : VK} {elt tg iter : Expr} {scope : Scope} {own : List (Str × Nat)} {pos pos' : Pos} {wi : TI} {g : TG} {te : TE} {use : Option (Value → Sem Unit)} {Qf : Value → Shared → Prop}
theorem lc_blkX {it D : Addr} {fp : List Addr} {tn : Nat → Heap → Prop} {J : It} {HL : Hp} {sL : Shared} {W : Nat → Nat → Hp → Prop} {m0 : Nat} (calm : X.calm = true) (nd : X.N.Nodup) (nm : BlkOk X.N X.env.scope scope own)
    (to : ∀ (v : Shared) (G : Hp) (C : Addr) (cl : List (Str × Addr)) (fp : List Addr), PG (X.blk v G scope (compEnvC scope cl C X.env) fp) tg g)
    (el : ∀ (v : Shared) (G : Hp) (C : Addr) (cl : List (Str × Addr)) (fp : List Addr) (pn : List (Addr × Obj)), v.heap.objs.size ≤ C → Inv X pins σ G v → (∀ b ∈ fp, FpOk X pins G b) → PE ((X.blk v G scope (compEnvC scope cl C X.env) fp).tr pn (notedBy (model X.prog X.w) X.A (compEnvC scope cl C X.env) (CompFails (model X.prog X.w) X.A X.xe (compEnvC scope cl C X.env)))) elt te)
    (T : Turn X.prog X.w X.K tg J fp it tn) (IL : Inv X pins σ HL sL) (tL : tn 0 sL.heap) (fL : ∀ b ∈ fp, FpOk X pins HL b) (szL : ∀ b ∈ fp, b < sL.heap.objs.size) (w0 : W 0 m0 HL)
    (hRR : ∀ (D : Addr) (ce : Env) (s' : Shared) (m : Str → Option Value) (H' : Hp), Inv X pins σ H' s' → Q (.ref D) H' → s'.heap.Ns ce.locals m → FpOk X pins H' ce.locals → compEnds (model X.prog X.w) X.A X.xe use Qf (.ref D) ce (.ok .next) s')
    (turn : ∀ i m G, W i m G → (J.stop i G ∧ Q (.ref D) G) ∨ (J.go i G ∧ ∃ Nx : Hp → Prop, (∀ G', Nx G' → ∃ m', m' < m ∧ W (i + 1) m' G') ∧ ∀ x G', J.yld i G x G' → g x (wipe σ (own.map (·.2))) G' fun σ2 G2 => wipe σ2 (own.map (·.2)) = wipe σ (own.map (·.2)) ∧ tYes σ2 G2 fun b G3 =>
      if b = true then te σ2 G3 fun y G4 => ∃ acc, G4 D = some (.lst acc) ∧ acc.length < sizeLine ∧ Nx (upd G4 D (.lst (acc ++ [y]))) else Nx G3)) :
    codeAny (model X.prog X.w) X.A (.compStart (.ListComp elt [⟨tg, iter, [], 0⟩] scope pos) 0 (.ref it) (.ref D) (compEnvC scope (cellsFrom (sL.heap.objs.size + 1) scope.names (cloFrom X.env.cells scope.names [])) sL.heap.objs.size X.env))
      (compEnds (model X.prog X.w) X.A X.xe use Qf (.ref D) (compEnvC scope (cellsFrom (sL.heap.objs.size + 1) scope.names (cloFrom X.env.cells scope.names [])) sL.heap.objs.size X.env)) { sL with heap := pushCells (sL.heap.push { cls := .type "dict", data := .dict #[] }) scope.names } := by
  have IB := block_start IL nm nd (fun b m => ⟨fL b m, szL b m⟩)
  have tB : tn 0 ({ sL with heap := pushCells (sL.heap.push { cls := .type "dict", data := .dict #[] }) scope.names } : Shared).heap := T.keep _ _ _ tL fun b _ o e => pushCells_keeps _ _ _ _ (Heap.get?_push_of_some _ e)
  have pg := to sL HL sL.heap.objs.size (cellsFrom (sL.heap.objs.size + 1) scope.names (cloFrom X.env.cells scope.names [])) fp
  have pe := fun pn => el sL HL sL.heap.objs.size (cellsFrom (sL.heap.objs.size + 1) scope.names (cloFrom X.env.cells scope.names [])) fp pn (Nat.le_refl _) IL fL
  generalize hce : compEnvC scope (cellsFrom (sL.heap.objs.size + 1) scope.names (cloFrom X.env.cells scope.names [])) sL.heap.objs.size X.env = ce at IB pg pe ⊢
  have cL : ce.locals = sL.heap.objs.size := by subst hce; rfl
  generalize ({ sL with heap := pushCells (sL.heap.push { cls := .type "dict", data := .dict #[] }) scope.names } : Shared) = sB at IB tB ⊢
  have ofp : ∀ {τ : L2.St} {G : Hp} {v : Shared}, Inv (X.blk sL HL scope ce fp) [] τ G v → (∀ b ∈ fp, G b = none) → ∀ b ∈ fp, FpOk (X.blk sL HL scope ce fp) [] G b := fun {τ G v} K n b m =>
    ⟨n b m, (K.ok.exf b m).1, K.ok.exfs b m, .inl m, fun x c e => (K.ok.exf b m).2 x c e, fun p hp => absurd (show p ∈ ([] : List (Addr × Obj)) ++ [] from hp) (by simp)⟩
  have loop : codeAny (model X.prog X.w) X.A (.compLoop (.ListComp elt [⟨tg, iter, [], 0⟩] scope pos) 0 (.ref it) (.ref D) ce) (compEnds (model X.prog X.w) X.A X.xe use Qf (.ref D) ce) sB := by
    refine compLoop_any (fun n v => ∃ i G, Inv (X.blk sL HL scope ce fp) [] (wipe σ (own.map (·.2))) G v ∧ tn i v.heap ∧ (∀ b ∈ fp, G b = none) ∧ W i n G) ?_ m0 ⟨0, HL, IB, tB, fun b m => (fL b m).1, w0⟩
    rintro n v ⟨i, G, Iv, tv, nv, wv⟩
    rcases turn i n G wv with ⟨stop, fin⟩ | ⟨go, Nx, dec, step⟩
    · refine thnF (T.done (X.blk sL HL scope ce fp) rfl rfl rfl calm i [] v _ G (fun _ _ => False) Iv (ofp Iv nv) tv stop) ?_
      rintro _ v1 ⟨rfl, I1⟩
      have Ib : Inv X pins σ G v1 := IL.call' (ch := fp) I1.os I1.base I1.hok I1.bare fun b m => ⟨(fL b m).2.2.2.1, (fL b m).2.1, (fL b m).2.2.2.2.1, (fL b m).2.2.2.2.2⟩
      obtain ⟨mp, ns, _⟩ := I1.loc
      have ns : v1.heap.Ns ce.locals mp := ns
      have nC : G ce.locals = none := I1.free
      exact hRR D ce v1 mp G Ib fin ns (IL.fpOk (by rw [cL]; exact Nat.le_refl _) nC)
    · refine thnF (T.item (X.blk sL HL scope ce fp) rfl rfl rfl calm i [] v _ G (fun _ _ => False) Iv (ofp Iv nv) tv go) ?_
      rintro _ v1 ⟨u, rfl, z1⟩
      refine thnF z1 fun _ v2 ⟨x, G2, I2, r2, y2, t2, n2⟩ => ?_
      refine thnF (pg.run _ v2 _ G2 x u _ (I2.pinned (ofp I2 n2) (T.obj _ _ t2)) r2 (step x G2 y2)) fun _ v3 ⟨σ3, G3, I3, w3, q3⟩ => ?_
      have q3 := (show if true = true then te σ3 G3 _ else Nx G3 from q3)
      rw [if_pos rfl] at q3
      refine wpAny_tests_nil ?_
      rw [if_pos rfl]
      refine thn ((pe _).run _ v3 σ3 G3 _ (I3.toTry _) q3) fun z v4 ⟨yv, G4, I4, r4, acc, hD, hz, nx⟩ => ?_
      have I4 := I4.ofTry I3.ok
      refine app_ok (X := X.blk sL HL scope ce fp) I4 hD hz r4 fun v5 I5 => ?_
      obtain ⟨m', lt, w'⟩ := dec _ nx
      have kp : ∀ b ∈ fp, ∀ o, v2.heap.get? b = some o → v5.heap.get? b = some o ∧ upd G4 D (.lst (acc ++ [yv])) b = none := fun b m o e =>
        let z := I5.pin (b, o) (List.mem_append_right _ (List.mem_append_right _ (mem_pinsAt m e)))
        ⟨z.1, z.2.1⟩
      have ln : (wipe σ (own.map (·.2))).length = σ3.length := by rw [← w3, wipe_length]
      exact ⟨m', lt, i + 1, _, (I5.unpinned (pins := [])).weak ln (fun j y e => by rw [← w3] at e; exact (wipe_some e).1), T.keep _ _ _ t2 fun b m o e => (kp b m o e).1, fun b m => let ⟨o, e, _⟩ := T.obj _ _ t2 b m; (kp b m o e).2, w'⟩
  exact codeAny_compStart_list loop (T.self X.A 0 _ _ _ tB loop)
theorem lc_ownX (calm : X.calm = true) (nd : X.N.Nodup) (walk : PI X tg iter wi) (nm : BlkOk X.N X.env.scope scope own)
    (to : ∀ (v : Shared) (G : Hp) (C : Addr) (cl : List (Str × Addr)) (fp : List Addr), PG (X.blk v G scope (compEnvC scope cl C X.env) fp) tg g)
    (el : ∀ (v : Shared) (G : Hp) (C : Addr) (cl : List (Str × Addr)) (fp : List Addr) (pn : List (Addr × Obj)), v.heap.objs.size ≤ C → Inv X pins σ G v → (∀ b ∈ fp, FpOk X pins G b) → PE ((X.blk v G scope (compEnvC scope cl C X.env) fp).tr pn (notedBy (model X.prog X.w) X.A (compEnvC scope cl C X.env) (CompFails (model X.prog X.w) X.A X.xe (compEnvC scope cl C X.env)))) elt te)
    (plain : ∀ x, foldedSetIterable iter X.env x = pure x) (I : Inv X pins σ H s) (h : tLc wi g tYes te (own.map (·.2)) σ H Q)
    (hRR : ∀ (D : Addr) (ce : Env) (s' : Shared) (m : Str → Option Value) (H' : Hp), Inv X pins σ H' s' → Q (.ref D) H' → s'.heap.Ns ce.locals m → FpOk X pins H' ce.locals → compEnds (model X.prog X.w) X.A X.xe use Qf (.ref D) ce (.ok .next) s') :
    wpAny (model X.prog X.w) X.A (comprehension (.ListComp elt [⟨tg, iter, [], 0⟩] scope pos) scope X.env pos' (newList []) false (eval iter X.env) use) Qf X.xe s := by
  refine comprehension_at (use := use) rfl plain (closure_ok fun y m e => (nm.free y m e).elim (fun z => I.ok.has _ (.inl z)) fun z => I.ok.has _ (.inr z)) nm.kind (fun y m e => by rw [nm.uniq y m, e])
    (thn (walk.run pins s σ H _ I h) fun _ _ z => thn z fun itv sI zI => ?_)
  obtain ⟨it, fp, tn, J, HI, rfl, II, T, t0, fI, q⟩ := zI
  refine wpAny_newObj_type (newEnv_comp ?_) (by show 0 ≤ sizeLine; decide)
  have nD : HI sI.heap.objs.size = none := II.hok.fresh (Nat.le_refl _)
  obtain ⟨W, ⟨m0, w0⟩, turn⟩ := q _ nD
  have there : ∀ b ∈ fp, b < sI.heap.objs.size := fun b m => let ⟨_, e, _⟩ := T.obj _ _ t0 b m; Heap.lt_size e
  have IL : Inv X pins σ (upd HI sI.heap.objs.size (.lst [])) { sI with heap := sI.heap.push { cls := .type "list", data := .seq ([] : List Value).toArray } } :=
    II.laid (t' := sI.toks) (fun b o e => Heap.get?_push_of_some _ e) (Nat.le_refl _) ⟨Nat.zero_le _, [], 0, .nil, Heap.get?_push_size _ rfl⟩
  have fL : ∀ b ∈ fp, FpOk X pins (upd HI sI.heap.objs.size (.lst [])) b := fun b m => ⟨by rw [upd_ne (Nat.ne_of_lt (there b m))]; exact (fI b m).1, (fI b m).2⟩
  exact lc_blkX calm nd nm to el T IL (T.keep _ _ _ t0 fun b _ o e => Heap.get?_push_of_some _ e) fL (fun b m => by show b < (sI.heap.push _).objs.size; rw [Heap.size_push]; exact Nat.lt_succ_of_lt (there b m)) w0 hRR turn
end
section
variable {X : Cx} {elt tg iter : Expr} {scope : Scope} {own : List (Str × Nat)} {pos : Pos} {wi : TI} {g : TG} {te : L2.St → TE}
/-- y = [e for x in it], y a local, where e may raise what the def takes -/
theorem ps_setLcX {i : Nat} {y : Str} {py spos : Pos} (calm : X.calm = true) (nd : X.N.Nodup) (hy : X.N[i]? = some y) (hyl : X.env.scope.names.lookup y = some .local)
    (hsw : swapsWith (.ListComp elt [⟨tg, iter, [], 0⟩] scope pos) (some (.Name y py)) spos.line X.env = pure true) (walk : PI X tg iter wi) (nm : BlkOk X.N X.env.scope scope own)
    (to : ∀ (v : Shared) (G : Hp) (C : Addr) (cl : List (Str × Addr)) (fp : List Addr), PG (X.blk v G scope (compEnvC scope cl C X.env) fp) tg g)
    (el : ∀ (pins : List (Addr × Obj)) (σ : L2.St) (v : Shared) (G : Hp) (C : Addr) (cl : List (Str × Addr)) (fp : List Addr) (pn : List (Addr × Obj)), v.heap.objs.size ≤ C → Inv X pins σ G v → (∀ b ∈ fp, FpOk X pins G b) → PE ((X.blk v G scope (compEnvC scope cl C X.env) fp).tr pn (notedBy (model X.prog X.w) X.A (compEnvC scope cl C X.env) (CompFails (model X.prog X.w) X.A X.xe (compEnvC scope cl C X.env)))) elt (te σ))
    (plain : ∀ x, foldedSetIterable iter X.env x = pure x := by intro _; rfl) :
    PS X (.Assign [.Name y py] (.ListComp elt [⟨tg, iter, [], 0⟩] scope pos) spos) (tAsg (fun σ H Q => tLc wi g tYes (te σ) (own.map (·.2)) σ H Q) (gName i)) :=
  ⟨fun pins s σ H D I h => by
    rw [exec_Assign_Name_used _ _ _ _ hsw]
    refine wpAny_bind (wpAny_standAt (wpAny_bind ?_))
    show wpAny _ X.A (do let _ ← comprehension (.ListComp elt [⟨tg, iter, [], 0⟩] scope pos) scope X.env (firstIterPos [⟨tg, iter, [], 0⟩] pos) (newList []) false (eval iter X.env) (some (assign (.Name y py) X.env))) _ _ s
    have h : tLc wi g tYes (te σ) (own.map (·.2)) σ H (fun x H1 => gName i x σ H1 D.nx) := h
    refine wpAny_bind (thn (lc_ownX (Qf := fun _ s' => SP X pins D .next s') calm nd walk nm to (fun v G C cl fp pn => el pins σ v G C cl fp pn) plain I h fun L ce s' m H' I' q hn f => ?_) fun _ s' hq => wpAny_pure (wpAny_pure hq))
    show wpAny _ _ (assign (.Name y py) X.env (.ref L)) _ _ _
    refine wpAny_assign_Name (store_ok2 (v := V.ref L) I' nd hy (.inl hyl) rfl (fun s2 I2 ⟨a, sb, ha⟩ => ?_) (.inr hyl))
    have haC : ce.locals ≠ a := by
      rcases ha with z | z
      · rw [z]; exact f.2.1
      · exact fun e => f.2.2.2.2.1 y a z e.symm
    exact ⟨m, hn.sameBut sb haC, fun h3 sb3 => ⟨_, H', I2.turned (t' := s2.toks) (fun b o hb e => (sb3.2 b hb).trans e) f.1 f.2.1 f.2.2.2.1 f.2.2.2.2.1 f.2.2.2.2.2, q⟩⟩⟩
end
end NC
namespace NC
open PySem PySem.Spec PyProof.Rows L2
abbrev sSteer : Stmt := topS 77
abbrev nSteer : List Str := ["hall", "calls", "turns", "room", "goal", "intos", "moves", "ahead", "turn", "place"]
theorem scSteer : FnScope nSteer ["hall", "calls", "turns", "room", "goal"] (defScope sSteer) := ⟨rfl, rfl, rfl, by decide +kernel, rfl, by decide +kernel, by decide +kernel⟩
theorem fn_never {P : Program} {w : World} {K : PySem.W.Frag} {mg : Str → Option Value} {base : Heap} {CX : CXT} {k : Nat} {f : Addr} {fd : FuncData} {ps : List Str} : FnOk P w K mg base CX k f fd ps (fun _ _ _ _ => False) :=
  ⟨fun _ _ _ _ h => h.elim, fun _ _ _ _ _ _ _ _ _ _ _ _ _ h => h.elim⟩
section
variable {P : Program} {w : World} {K : PySem.W.Frag} {mg : Str → Option Value} {base : Heap} {C fi fb fm fr fg fw ff : Addr} {di db dm dr dg dw df : FuncData} {fGo fSo fKe fIs fCt : Addr} {dGo dSo dKe dIs dCt : FuncData} {fC fS fO fBy : Addr} {dC dS dO dBy : FuncData} {CT iT CH fH : Addr} {eT fdH : FuncData}
def spChkTB (C CT : Addr) : Sp := fun vs H Q E => ∃ x dx sb D l ys fo bs t, vs = [.ref x, .str (tx t)] ∧ HallN C H x dx sb D l ys fo bs ∧ (∀ c ∈ t, c < 128) ∧ t.length ≤ 60 ∧ (TurnOk l bs t → ∀ H' J, Same H H' → H J = none → H' J = some (.dK (ovK l t)) → Q (.ref J) H') ∧ (¬ TurnOk l bs t → BadF CT "badturn" H E)
theorem ok_chkTB {f : Addr} {fd : FuncData} {k : Nat} (B : BM mg) (Z : HC K mg C fi fb di db) (Y : HP K C fw ff dw df) (Cs : DF K mg "check_side" sChkSide ["walls", "side"] fC dC) (S : DF K mg "sides_of" sSides ["walls"] fS dS) (O : DF K mg "other" sOther ["side"] fO dO) (By : DF K mg "by_walls" sByWalls ["walls", "sides"] fBy dBy) (U : TT_ K mg fGo fSo fKe fIs fCt dGo dSo dKe dIs dCt) (T : HE K mg CH fH fdH) (X : XC0 K mg "BadTurn" "BadTurn.__init__" sBTinit CT iT eT)
    (F : Fun K "checked_turn" "checked_turn" sChkT f fd) : FnOk P w K mg base (L2.CX P w) (k + 6) f fd ["hall", "turn"] (spChkTB C CT) := by
  have GI : FnOk P w K mg base CX0 (k + 5) fIs dIs ["hall", "turn"] (spIsTurn C) := ok_isTurn B U.mz Z Y Cs S O By U.so U.ke U.go U.is_.F
  have GW : FnOk P w K mg base CX0 (k + 1) fw dw ["self"] (spHwalls C) := ok_Hwalls Z Y
  have GG : FnOk P w K mg base CX0 (k + 2) fGo dGo ["walls", "turn"] spGoesO := ok_goesO U.mz O U.go.F
  have GB : FnOk P w K mg base CX0 (k + 2) iT eT ["self"] (sp0 K "badturn") := ok_BT T X.F
  refine F.okX scChkT (fun vs H Q E h => ?_) (fun cdv A outer st H vs Q E hr h => ?_)
  · obtain ⟨x, dx, sb, D, l, ys, fo, bs, t, rfl, _⟩ := h
    rfl
  · obtain ⟨x, dx, sb, D, l, ys, fo, bs, t, rfl, hN, ta, tl, q, qe⟩ := h
    have g := hN.F.G.g
    refine ⟨_, pss_cons (ps_if (pt_not (pt_val (pe_call GI (hr.mono (by omega)) rfl U.is_.g U.is_.F.kp U.is_.b .nil pass0 (pa_cons (pv 0) (pa_cons (pv 1) pa_nil))))) (pss_one (ps_raise rfl (takes_of rfl rfl rfl rfl) (pmk_oex0 X.O X.iC X.tI GB (hr.mono (by omega)) X.b (by rfl) X.gC))) pss_nil)
      (pss_one (ps_ret (pe_call GG (hr.mono (by omega)) rfl U.go.g U.go.F.kp U.go.b .nil pass0 (pa_cons (pe_meth0 (pv 0) Z.cl Y.mw GW (hr.mono (by omega)) Y.bw .nil pass0) (pa_cons (pv 1) pa_nil))))), ?_⟩
    refine ⟨_, rfl, _, rfl, x, dx, sb, D, l, ys, fo, bs, t, rfl, hN, ta, tl, fun H1 b s1 hb => ?_⟩
    cases b with
    | false =>
      have no : ¬ TurnOk l bs t := fun z => by have := hb.mpr z; cases this
      exact ⟨_, rfl, iteT ⟨Nat.zero_le _, mk0 X.O X.hw fun d H4 s4 n4 e4 => qe no _ H4 d (sm_trans s1 s4) (L2.Same.free s1 n4) e4 rfl⟩⟩
    | true =>
      have tok := hb.mp rfl
      have hA := (hN.same s1).F.G.hA
      refine ⟨_, rfl, iteF ?_⟩
      refine ⟨_, rfl, x, dx, _, rfl, hA.x, rfl, x, dx, sb, D, l, ys, fo, rfl, hA, ?_⟩
      exact ⟨_, rfl, l, t, rfl, g, tok.1.len, ta, fun H2 J s2 nJ eJ => q tok H2 J (sm_trans s1 s2) (L2.Same.free s1 nJ) eJ⟩
def spBehind2X (C CT : Addr) : Sp := fun vs H _ E => ∃ x dx sb D l ys fo bs t v, vs = [.ref x, .str (tx t), v] ∧ HallN C H x dx sb D l ys fo bs ∧ TurnOk l bs t ∧ NoT C CT H x v E
theorem ok_turn_behind2X {f : Addr} {fd : FuncData} {k : Nat} (B : BM mg) (Z : HC K mg C fi fb di db) (Y : HP K C fw ff dw df) (Cs : DF K mg "check_side" sChkSide ["walls", "side"] fC dC) (S : DF K mg "sides_of" sSides ["walls"] fS dS) (O : DF K mg "other" sOther ["side"] fO dO) (By : DF K mg "by_walls" sByWalls ["walls", "sides"] fBy dBy) (U : TT_ K mg fGo fSo fKe fIs fCt dGo dSo dKe dIs dCt) (T : HE K mg CH fH fdH) (X : XC0 K mg "BadTurn" "BadTurn.__init__" sBTinit CT iT eT)
    (F : Fun K "turn_behind" "turn_behind" sBehind f fd) : FnOk P w K mg base (L2.CX P w) (k + 7) f fd ["hall", "one", "two"] (spBehind2X C CT) := by
  have G1 : FnOk P w K mg base CX0 (k + 6) fCt dCt ["hall", "turn"] (spChkT C) := ok_chkT B Z Y Cs S O By U U.ct.F
  have GT : FnOk P w K mg base (L2.CX P w) (k + 6) fCt dCt ["hall", "turn"] (spChkTX C CT) := ok_chkTX B Z Y Cs S O By U T X U.ct.F
  have GN : FnOk P w K mg base CX0 (k + 1) fSo dSo ["into", "sides"] (fun _ _ _ _ => False) := fn_never
  refine F.okX scBehind (fun vs H Q E h => ?_) (fun cdv A0 outer st H vs Q E hr h => ?_)
  · obtain ⟨x, dx, sb, D, l, ys, fo, bs, t, v, rfl, _⟩ := h
    rfl
  · obtain ⟨x, dx, sb, D, l, ys, fo, bs, t, v, rfl, hN, tok, h⟩ := h
    refine ⟨_, pss_cons (ps_expr (pe_call G1 (hr.mono (by omega)) rfl U.ct.g U.ct.F.kp U.ct.b .nil pass0 (pa_cons (pv 0) (pa_cons (pv 1) pa_nil))))
      (pss_one (ps_ret (pe_call GN (hr.mono (by omega)) rfl U.so.g U.so.F.kp U.so.b .nil pass0 (pa_cons (pe_call (E := E) GT (hr.mono (by omega)) rfl U.ct.g U.ct.F.kp U.ct.b .nil (passes_call (takes_of rfl rfl rfl rfl) (fun _ _ _ _ h => h)) (pa_cons (pv 0) (pa_cons (pv 2) pa_nil))) (pa_cons (pv 1) pa_nil))))), ?_⟩
    exact ⟨_, rfl, _, rfl, x, dx, sb, D, l, ys, fo, bs, t, rfl, hN, tok, fun H1 J s1 _ _ => ⟨_, rfl, _, rfl, x, v, rfl, h.later s1⟩⟩
/-- the class Table, as far as it is named -/
structure TbC (K : PySem.W.Frag) (mg : Str → Option Value) (CB fT : Addr) (dT : FuncData) : Prop where
  mks : Mk K CB fT
  gC : mg "Table" = some (.ref CB)
  b : Binds K dT ["self", "hall", "entries"] []
def spOfTurnX (C CT : Addr) : Sp := fun vs H _ E => ∃ x v, vs = [.ref x, v] ∧ NoT C CT H x v E
theorem ok_ofTurnX {CB fT fBk : Addr} {dT dBk : FuncData} {f : Addr} {fd : FuncData} {k : Nat} (B : BM mg) (Z : HC K mg C fi fb di db) (Y : HP K C fw ff dw df) (Cs : DF K mg "check_side" sChkSide ["walls", "side"] fC dC) (S : DF K mg "sides_of" sSides ["walls"] fS dS) (O : DF K mg "other" sOther ["side"] fO dO) (By : DF K mg "by_walls" sByWalls ["walls", "sides"] fBy dBy) (U : TT_ K mg fGo fSo fKe fIs fCt dGo dSo dKe dIs dCt) (T : HE K mg CH fH fdH) (X : XC0 K mg "BadTurn" "BadTurn.__init__" sBTinit CT iT eT) (Tb : TbC K mg CB fT dT) (Bk : DF K mg "back_turn" sBack ["hall", "turn"] fBk dBk)
    (F : Fun K "of_turn" "of_turn" sOfTurn f fd) : FnOk P w K mg base (L2.CX P w) (k + 8) f fd ["hall", "turn"] (spOfTurnX C CT) := by
  have GB : FnOk P w K mg base (L2.CX P w) (k + 7) fBk dBk ["hall", "turn"] (spBackX C CT) := ok_BackX B Z Y Cs S O By U T X Bk.F
  have GN : FnOk P w K mg base CX0 (k + 1) fT dT ["self", "hall", "entries"] (fun _ _ _ _ => False) := fn_never
  refine F.okX scOfTurn (fun vs H Q E h => ?_) (fun cdv A0 outer st H vs Q E hr h => ?_)
  · obtain ⟨x, v, rfl, _⟩ := h
    rfl
  · obtain ⟨x, v, rfl, h⟩ := h
    refine ⟨_, pss_one (ps_ret (pe_make Tb.mks GN (hr.mono (by omega)) rfl Tb.gC Tb.b .nil pass0 (pa_cons (pv 0) (pa_cons (pe_callTy call_tuple_of (by rfl) B.tuple (by decide +kernel) (pa_cons (pe_call (E := E) GB (hr.mono (by omega)) rfl Bk.g Bk.F.kp Bk.b .nil (passes_call (takes_of rfl rfl rfl rfl) (fun _ _ _ _ h => h)) (pa_cons (pv 0) (pa_cons (pv 1) pa_nil))) pa_nil)) pa_nil)))), ?_⟩
    exact ⟨_, rfl, _, rfl, _, rfl, x, v, rfl, h⟩
end
end NC
namespace NC
open PySem PySem.Spec PyProof.Rows L2
section
variable {P : Program} {w : World} {K : PySem.W.Frag} {mg : Str → Option Value} {base : Heap} {C fi fb fm fr fg fw ff : Addr} {di db dm dr dg dw df : FuncData} {fGo fSo fKe fIs fCt : Addr} {dGo dSo dKe dIs dCt : FuncData} {fC fS fO fBy : Addr} {dC dS dO dBy : FuncData} {CT iT CH fH : Addr} {eT fdH : FuncData} {fIsP fChP fAFB fTo fSh fSc : Addr} {dIsP dChP dAFB dTo dSh dSc : FuncData}
def spSteerT (K : PySem.W.Frag) (C CT : Addr) : Sp := fun vs H _ E => ∃ x dx sb D l ys fo bs a b t0 t1 w3 w4, ∃ (Ps : List (List Nat)), vs = [.ref x, .ref a, .ref b, w3, w4] ∧ HallN C H x dx sb D l ys fo bs ∧ SqL K H a ((Ps.map tx).map V.str) ∧ Ps.length ≤ 12 ∧ (∀ P ∈ Ps, Part l P ∧ ∃ z ∈ rms l bs, ∀ s ∈ P, s ∈ z) ∧
  SqL K H b [.str (tx t0), .str (tx t1)] ∧ TurnOk l bs t0 ∧ (∀ c ∈ t1, c < 128) ∧ t1.length ≤ 60 ∧ ¬ TurnOk l bs t1 ∧ BadF CT "badturn" H E
set_option maxHeartbeats 1000000 in
theorem ok_steerT {f : Addr} {fd : FuncData} {k : Nat} {tc : Tok} (B : BM mg) (Z : HC K mg C fi fb di db) (Y : HP K C fw ff dw df) (Cs : DF K mg "check_side" sChkSide ["walls", "side"] fC dC) (S : DF K mg "sides_of" sSides ["walls"] fS dS) (O : DF K mg "other" sOther ["side"] fO dO) (By : DF K mg "by_walls" sByWalls ["walls", "sides"] fBy dBy) (U : TT_ K mg fGo fSo fKe fIs fCt dGo dSo dKe dIs dCt) (T : HE K mg CH fH fdH) (X : XC0 K mg "BadTurn" "BadTurn.__init__" sBTinit CT iT eT)
    (PTs_ : PT K mg C fw ff dw df fIsP fChP fAFB fTo dIsP dChP dAFB dTo) (Sh : DF K mg "shut" sShut ["hall", "part"] fSh dSh) (Sc : DF K mg "shut_calls" sShCalls ["hall", "calls", "most"] fSc dSc) (mC : mg "MOST_CALLS" = some (.int 12 tc))
    (F : Fun K "steer_turning" "steer_turning" sSteer f fd) : FnOk P w K mg base (L2.CX P w) (k + 8) f fd ["hall", "calls", "turns", "room", "goal"] (spSteerT K C CT) := by
  have GT : FnOk P w K mg base (L2.CX P w) (k + 6) fCt dCt ["hall", "turn"] (spChkTB C CT) := ok_chkTB B Z Y Cs S O By U T X U.ct.F
  have GC : FnOk P w K mg base CX0 (k + 7) fSc dSc ["hall", "calls", "most"] (spShCalls K C) := ok_shCalls B Z PTs_ Cs S O By Sh Sc.F
  refine F.okX scSteer (fun vs H Q E h => ?_) (fun cdv A0 outer st H vs Q E hr h => ?_)
  · obtain ⟨x, dx, sb, D, l, ys, fo, bs, a, b, t0, t1, w3, w4, Ps, rfl, _⟩ := h
    rfl
  · obtain ⟨x, dx, sb, D, l, ys, fo, bs, a, b, t0, t1, w3, w4, Ps, rfl, hN, hS, hn, hPs, hb, tok, ta, tl, no, qe⟩ := h
    have nd := scSteer.nd
    refine ⟨_, pss_cons (ps_expr (pe_call GC (hr.mono (by omega)) rfl Sc.g Sc.F.kp Sc.b .nil pass0 (pa_cons (pv 0) (pa_cons (pv 1) (pa_cons (pe_glob (v := .int 12) rfl mC ⟨_, rfl⟩) pa_nil)))))
      (pss_cons (ps_setLcX (i := 5) (own := [("turn", 8)]) (g := gName 8) (te := fun _ => tCall (spChkTB C CT) [] E (tCons (tVar 0) (tCons (tVar 8) tNil))) rfl nd rfl rfl (sw_true rfl rfl rfl (by decide +kernel)) (pi_list (pv 2)) (blkOk_by (N := nSteer) (sc := defScope sSteer) (by decide +kernel)) (fun _ _ _ _ _ => pg_name (i := 8) nd rfl (Or.inl rfl))
        (fun pins σ v G C' cl fp pn hC I fI => pe_call (E := E) GT (hr.mono (by omega)) rfl U.ct.g U.ct.F.kp U.ct.b .nil (passes_blk rfl rfl rfl (takes_of rfl rfl rfl rfl) I fI hC (fun _ _ _ h => h)) (pa_cons (pv 0) (pa_cons (pv 8) pa_nil))))
      (pss_cons ps_dead (pss_cons ps_dead (pss_cons ps_dead (pss_cons ps_dead (pss_cons ps_dead (pss_one ps_dead))))))), ?_⟩
    refine ⟨_, rfl, _, rfl, x, dx, sb, D, l, ys, fo, bs, a, Ps, rfl, hN.F, .inl hS, hn, hPs, fun H1 p s1 _ _ => ?_⟩
    have wk := walk_list (K := K) (a := b) (xs := [V.str (tx t0), V.str (tx t1)])
    refine ⟨_, rfl, b, rfl, ⟨_, sm_l s1 hb⟩, fun Da na => ?_⟩
    refine lc_it wk (fun i H' => i ≤ 1 ∧ Same H1 H' ∧ ∃ acc : List V, H' Da = some (.lst acc) ∧ acc.length = i) ⟨by omega, same_upd na, [], upd_same, rfl⟩ (fun i H' _ h => sm_l (sm_trans s1 h.2.1) hb) ?_ ?_
    · rintro i v G1 G2 hi ⟨i1, u1, acc, e1, al⟩ ⟨rfl, hx⟩
      have hN1 := hN.same (sm_trans s1 u1)
      have g := hN.F.G.g
      match i, i1, hx with
      | 0, _, hx =>
        cases hx
        refine ⟨rfl, yes_i ⟨_, rfl, _, rfl, x, dx, sb, D, l, ys, fo, bs, t0, rfl, hN1, fun c hc => (sds_lt g (trn_sd g tok.1 hc)).asc, by rw [tok.1.len]; have := g.hi; omega, fun _ G3 J u3 nJ eJ => ?_, fun z => absurd tok z⟩⟩
        exact ⟨acc, u3 _ _ e1, by rw [al, sizeLine_eq]; decide, by omega, sm_over (sm_trans u1 u3) na, _, upd_same, by rw [List.length_append, al]; rfl⟩
      | 1, _, hx =>
        cases hx
        exact ⟨rfl, yes_i ⟨_, rfl, _, rfl, x, dx, sb, D, l, ys, fo, bs, t1, rfl, hN1, ta, tl, fun z => absurd z no, fun _ => qe.later (sm_trans s1 u1)⟩⟩
    · rintro G1 ⟨i1, _⟩
      exact absurd i1 (by show ¬ (2 ≤ 1); decide)
end
end NC
namespace NC
open PySem PySem.Spec PyProof.Rows L2
section
variable {P : Program} {w : World} {K : PySem.W.Frag} {mg : Str → Option Value} {base : Heap} {C fi fb fm fr fg fw ff : Addr} {di db dm dr dg dw df : FuncData} {fGo fSo fKe fIs fCt : Addr} {dGo dSo dKe dIs dCt : FuncData} {fC fS fO fBy : Addr} {dC dS dO dBy : FuncData} {CR iR CH fH fCh : Addr} {eR fdH dCh : FuncData} {fIsP fChP fAFB fTo fSh fSc : Addr} {dIsP dChP dAFB dTo dSh dSc : FuncData}
def spTurnedR (C CR : Addr) : Sp := fun vs H _ E => ∃ x dx sb D l ys fo bs t r, vs = [.ref x, .str (tx t), .str (tx r)] ∧ HallN C H x dx sb D l ys fo bs ∧ TurnOk l bs t ∧ (∀ c ∈ r, c < 128) ∧ r.length ≤ 100 ∧ r ∉ rms l bs ∧ BadF CR "badroom" H E
theorem ok_turnedR {f : Addr} {fd : FuncData} {k : Nat} (B : BM mg) (Z : HC K mg C fi fb di db) (Y : HP K C fw ff dw df) (Cs : DF K mg "check_side" sChkSide ["walls", "side"] fC dC) (S : DF K mg "sides_of" sSides ["walls"] fS dS) (O : DF K mg "other" sOther ["side"] fO dO) (By : DF K mg "by_walls" sByWalls ["walls", "sides"] fBy dBy) (U : TT_ K mg fGo fSo fKe fIs fCt dGo dSo dKe dIs dCt) (hany : mg "any" = none) (M : HM K C fm fr fg dm dr dg) (T : HE K mg CH fH fdH) (XR : XC0 K mg "BadRoom" "BadRoom.__init__" sBRinit CR iR eR) (Ch : DF K mg "check_room" sChkRoom ["hall", "room"] fCh dCh)
    (F : Fun K "turned" "turned" sTurned f fd) : FnOk P w K mg base (L2.CX P w) (k + 7) f fd ["hall", "turn", "room"] (spTurnedR C CR) := by
  have GT : FnOk P w K mg base CX0 (k + 6) fCt dCt ["hall", "turn"] (spChkT C) := ok_chkT B Z Y Cs S O By U U.ct.F
  have GC : FnOk P w K mg base (L2.CX P w) (k + 4) fCh dCh ["hall", "room"] (spChkRoomX C CR) := ok_chkRoomX hany Z M Ch.F T XR
  refine F.okX scTurned (fun vs H Q E h => ?_) (fun cdv A0 outer st H vs Q E hr h => ?_)
  · obtain ⟨x, dx, sb, D, l, ys, fo, bs, t, r, rfl, _⟩ := h
    rfl
  · obtain ⟨x, dx, sb, D, l, ys, fo, bs, t, r, rfl, hN, tok, ra, rl, no, qe⟩ := h
    refine ⟨_, pss_cons (ps_set (i := 3) scTurned.nd rfl (.inl rfl) (pe_call GT (hr.mono (by omega)) rfl U.ct.g U.ct.F.kp U.ct.b .nil pass0 (pa_cons (pv 0) (pa_cons (pv 1) pa_nil))))
      (pss_cons (ps_expr (pe_call (E := E) GC (hr.mono (by omega)) rfl Ch.g Ch.F.kp Ch.b .nil (passes_call (takes_of rfl rfl rfl rfl) (fun _ _ _ _ h => h)) (pa_cons (pv 0) (pa_cons (pv 2) pa_nil))))
      (pss_one ps_dead)), ?_⟩
    refine ⟨_, rfl, _, rfl, x, dx, sb, D, l, ys, fo, bs, t, rfl, hN, tok, fun H1 J s1 _ _ => ?_⟩
    exact ⟨_, rfl, _, rfl, x, dx, sb, D, l, ys, fo, bs, r, rfl, (hN.same s1).F.G, ra, rl, fun z => absurd z no, fun _ H' d s n e => qe _ H' d (sm_trans s1 s) (L2.Same.free s1 n) e rfl⟩
def spSteerR (K : PySem.W.Frag) (C CR : Addr) : Sp := fun vs H _ E => ∃ x dx sb D l ys fo bs a b r z, ∃ (Ps ts : List (List Nat)), vs = [.ref x, .ref a, .ref b, .str (tx r), .str (tx z)] ∧ HallN C H x dx sb D l ys fo bs ∧ SqL K H a ((Ps.map tx).map V.str) ∧ Ps.length ≤ 12 ∧ (∀ P ∈ Ps, Part l P ∧ ∃ z ∈ rms l bs, ∀ s ∈ P, s ∈ z) ∧
  SqL K H b ((ts.map tx).map V.str) ∧ ts.length ≤ 100 ∧ (∀ t ∈ ts, TurnOk l bs t) ∧ (∀ c ∈ r, c < 128) ∧ r.length ≤ 100 ∧ (∀ c ∈ z, c < 128) ∧ z.length ≤ 100 ∧ (r ∉ rms l bs ∨ z ∉ rms l bs) ∧ BadF CR "badroom" H E
set_option maxHeartbeats 1000000 in
theorem ok_steerR {f : Addr} {fd : FuncData} {k : Nat} {tc : Tok} (B : BM mg) (Z : HC K mg C fi fb di db) (Y : HP K C fw ff dw df) (Cs : DF K mg "check_side" sChkSide ["walls", "side"] fC dC) (S : DF K mg "sides_of" sSides ["walls"] fS dS) (O : DF K mg "other" sOther ["side"] fO dO) (By : DF K mg "by_walls" sByWalls ["walls", "sides"] fBy dBy) (U : TT_ K mg fGo fSo fKe fIs fCt dGo dSo dKe dIs dCt) (hany : mg "any" = none) (M : HM K C fm fr fg dm dr dg) (T : HE K mg CH fH fdH) (XR : XC0 K mg "BadRoom" "BadRoom.__init__" sBRinit CR iR eR) (Ch : DF K mg "check_room" sChkRoom ["hall", "room"] fCh dCh)
    (PTs_ : PT K mg C fw ff dw df fIsP fChP fAFB fTo dIsP dChP dAFB dTo) (Sh : DF K mg "shut" sShut ["hall", "part"] fSh dSh) (Sc : DF K mg "shut_calls" sShCalls ["hall", "calls", "most"] fSc dSc) (mC : mg "MOST_CALLS" = some (.int 12 tc))
    (F : Fun K "steer_turning" "steer_turning" sSteer f fd) : FnOk P w K mg base (L2.CX P w) (k + 8) f fd ["hall", "calls", "turns", "room", "goal"] (spSteerR K C CR) := by
  have GT : FnOk P w K mg base CX0 (k + 6) fCt dCt ["hall", "turn"] (spChkT C) := ok_chkT B Z Y Cs S O By U U.ct.F
  have GC : FnOk P w K mg base CX0 (k + 7) fSc dSc ["hall", "calls", "most"] (spShCalls K C) := ok_shCalls B Z PTs_ Cs S O By Sh Sc.F
  have GR : FnOk P w K mg base (L2.CX P w) (k + 4) fCh dCh ["hall", "room"] (spChkRoomX C CR) := ok_chkRoomX hany Z M Ch.F T XR
  refine F.okX scSteer (fun vs H Q E h => ?_) (fun cdv A0 outer st H vs Q E hr h => ?_)
  · obtain ⟨x, dx, sb, D, l, ys, fo, bs, a, b, r, z, Ps, ts, rfl, _⟩ := h
    rfl
  · obtain ⟨x, dx, sb, D, l, ys, fo, bs, a, b, r, z, Ps, ts, rfl, hN, hS, hn, hPs, hb, tl, toks, ra, rl, za, zl, no, qe⟩ := h
    have nd := scSteer.nd
    refine ⟨_, pss_cons (ps_expr (pe_call GC (hr.mono (by omega)) rfl Sc.g Sc.F.kp Sc.b .nil pass0 (pa_cons (pv 0) (pa_cons (pv 1) (pa_cons (pe_glob (v := .int 12) rfl mC ⟨_, rfl⟩) pa_nil)))))
      (pss_cons (ps_setLc (i := 5) (own := [("turn", 8)]) (g := gName 8) (tt := tYes) (te := tCall (spChkT C) [] E0 (tCons (tVar 0) (tCons (tVar 8) tNil))) rfl nd rfl rfl (sw_true rfl rfl rfl (by decide +kernel)) (pi_list (pv 2)) (blkOk_by (N := nSteer) (sc := defScope sSteer) (by decide +kernel)) (fun _ _ _ _ _ => pg_name (i := 8) nd rfl (Or.inl rfl)) (fun _ _ _ _ _ => pts_nil)
        (fun _ _ _ _ _ => pe_call GT (hr.mono (by omega)) rfl U.ct.g U.ct.F.kp U.ct.b .nil pass0 (pa_cons (pv 0) (pa_cons (pv 8) pa_nil))))
      (pss_cons (ps_expr (pe_call (E := E) GR (hr.mono (by omega)) rfl Ch.g Ch.F.kp Ch.b .nil (passes_call (takes_of rfl rfl rfl rfl) (fun _ _ _ _ h => h)) (pa_cons (pv 0) (pa_cons (pv 3) pa_nil))))
      (pss_cons (ps_expr (pe_call (E := E) GR (hr.mono (by omega)) rfl Ch.g Ch.F.kp Ch.b .nil (passes_call (takes_of rfl rfl rfl rfl) (fun _ _ _ _ h => h)) (pa_cons (pv 0) (pa_cons (pv 4) pa_nil))))
      (pss_cons ps_dead (pss_cons ps_dead (pss_cons ps_dead (pss_one ps_dead))))))), ?_⟩
    refine ⟨_, rfl, _, rfl, x, dx, sb, D, l, ys, fo, bs, a, Ps, rfl, hN.F, .inl hS, hn, hPs, fun H1 p s1 _ _ => ?_⟩
    have wk := walk_list (K := K) (a := b) (xs := (ts.map tx).map V.str)
    rw [List.length_map, List.length_map] at wk
    refine ⟨_, rfl, b, rfl, ⟨_, sm_l s1 hb⟩, fun Da na => ?_⟩
    refine lc_it wk (fun i H' => i ≤ 100 ∧ Same H1 H' ∧ ∃ acc : List V, H' Da = some (.lst acc) ∧ acc.length = i) ⟨by omega, same_upd na, [], upd_same, rfl⟩ (fun i H' _ h => sm_l (sm_trans s1 h.2.1) hb) ?_ ?_
    · rintro i v G1 G2 hi ⟨i1, u1, acc, e1, al⟩ ⟨rfl, hx⟩
      rw [List.getElem?_map, List.getElem?_map] at hx
      obtain ⟨q1, hq1, rfl⟩ := Option.map_eq_some_iff.mp hx
      obtain ⟨t, ht, rfl⟩ := Option.map_eq_some_iff.mp hq1
      exact ⟨rfl, yes_i ⟨_, rfl, _, rfl, x, dx, sb, D, l, ys, fo, bs, t, rfl, hN.same (sm_trans s1 u1), toks t (List.mem_of_getElem? ht), fun G3 J u3 nJ eJ =>
        ⟨acc, u3 _ _ e1, by rw [al, sizeLine_eq]; omega, by omega, sm_over (sm_trans u1 u3) na, _, upd_same, by rw [List.length_append, al]; rfl⟩⟩⟩
    · rintro G1 ⟨_, u1, _⟩
      have s01 := sm_trans s1 u1
      refine ⟨_, rfl, _, rfl, x, dx, sb, D, l, ys, fo, bs, r, rfl, (hN.same s01).F.G, ra, rl, fun hm G2 s2 => ?_, fun hm H' d s n e => qe _ H' d (sm_trans s01 s) (L2.Same.free s01 n) e rfl⟩
      have s02 := sm_trans s01 s2
      exact ⟨_, rfl, _, rfl, x, dx, sb, D, l, ys, fo, bs, z, rfl, (hN.same s02).F.G, za, zl, fun hz => (no.elim (fun q => q hm) fun q => q hz).elim, fun _ H' d s n e => qe _ H' d (sm_trans s02 s) (L2.Same.free s02 n) e rfl⟩
end
end NC
namespace NC
open PySem PySem.Spec PyProof.Rows L2
/-- a kept lambda that is refused as it should be, whatever the refusal's fields -/
theorem ref_yesF {X : Cx} {K : PySem.W.Frag} {CH CM CN CS : Addr} {k : Nat} {G : Hp} {f : Addr} {tb : XK → TE} {σ : L2.St} {Q : VK} {w : Str} (lo : LamOk X k G f tb) (okw : okS w) (ms : PySem.W.exmAny K (.ref CS) (fam CH CM CN) = some true) (xf : XfC K CS) (hw : PySem.W.findIn K (.ref CS) "word" = some none)
    (act : ∀ (E : XK) (R : VK), BadF CS w G E → tb E σ G R) (q : ∀ G', Same G G' → Q (.bl true) G') :
    ∃ f' tb', LamOk X k G f' tb' ∧ spRef K CH CM CN f' (fun E G R => tb' E σ G R) [.ref f, .str w] G Q := by
  refine ⟨f, tb, lo, w, fun cls dd G' => ∃ x fs, cls = .ref CS ∧ dd = some x ∧ Same G G' ∧ G' x = some (.xd fs) ∧ fs.lookup (Str.ofString "word") = some (V.str w), rfl, okw, ?_, fun E R hE => act E R fun fs G' x s _ e l => hE _ _ _ ⟨x, fs, rfl, rfl, s, e, l⟩⟩
  rintro cls dd G1 ⟨x, fs, rfl, rfl, sG, eG, el⟩
  refine ⟨ms, CS, x, _, _, rfl, xf, hw, rfl, eG, el, w, rfl, okw, fun G2 s2 => ?_⟩
  rw [decide_eq_true rfl]
  exact q G2 (sm_trans sG s2)
theorem all_rep (n : Nat) : ((List.replicate n true)).all id = true := by
  rw [List.all_eq_true]
  exact fun x hx => (List.mem_replicate.mp hx).2
/-- the kept lambdas fs of the list at LA, which do ts -/
structure Kp (X : Cx) (k : Nat) (Sx : Hp → Prop) (LA : Addr) (ts : List (XK → TE)) (fs : List Addr) (G : Hp) : Prop where
  S : Sx G
  e : G LA = some (.lst (fs.map V.ref))
  len : fs.length = ts.length
  lo : ∀ (i : Nat) (f : Addr) (t : XK → TE), fs[i]? = some f → ts[i]? = some t → LamOk X k G f t
theorem Kp.one {X : Cx} {k : Nat} {Sx : Hp → Prop} {LA f : Addr} {t : XK → TE} {G : Hp} (lo : LamOk X k G f t) (n : G LA = none) (s : Sx (upd G LA (.lst [V.ref f]))) : Kp X k Sx LA [t] [f] (upd G LA (.lst [V.ref f])) :=
  ⟨s, upd_same, rfl, fun i f' t' h1 h2 => by
    match i, h1, h2 with
    | 0, h1, h2 => cases h1; cases h2; exact lo.same (same_upd n)⟩
theorem Kp.snoc {X : Cx} {k : Nat} {Sx : Hp → Prop} {LA f : Addr} {ts : List (XK → TE)} {fs : List Addr} {t : XK → TE} {G G1 : Hp} (h : Kp X k Sx LA ts fs G) (ex : LamX.ExtN G G1) (lo : LamOk X k G1 f t) (s : Sx (upd G1 LA (.lst (fs.map V.ref ++ [V.ref f])))) :
    Kp X k Sx LA (ts ++ [t]) (fs ++ [f]) (upd G1 LA (.lst (fs.map V.ref ++ [V.ref f]))) := by
  have e1 : G1 LA = some (.lst (fs.map V.ref)) := ex _ _ h.e (fun _ z => by cases z)
  refine ⟨s, by rw [upd_same, List.map_append]; rfl, by rw [List.length_append, List.length_append, h.len]; rfl, fun i f' t' h1 h2 => ?_⟩
  rcases Nat.lt_or_ge i fs.length with z | z
  · rw [List.getElem?_append_left z] at h1
    rw [List.getElem?_append_left (by rw [← h.len]; exact z)] at h2
    exact ((h.lo i f' t' h1 h2).ext ex).upd e1
  · rw [List.getElem?_append_right z] at h1
    rw [List.getElem?_append_right (by rw [← h.len]; exact z), ← h.len] at h2
    match i - fs.length, h1, h2 with
    | 0, h1, h2 => cases h1; cases h2; exact lo.upd e1
end NC
namespace NC
open PySem PySem.Spec PyProof.Rows L2
abbrev sLaw : Stmt := topS 98
abbrev nLaw : List Str := ["_law_script", "_law_d", "_law_bars", "_law_rooms_here", "_law_k", "_law_some", "_law_asks", "_law_hall_here", "_law_odd", "_law_room", "_law_shuts_here", "_law_ask"]
theorem scLaw : FnScope nLaw ["_law_script"] (defScope sLaw) := ⟨rfl, rfl, rfl, by decide +kernel, rfl, by decide +kernel, by decide +kernel⟩
theorem cutS_in (z : List Nat) (a b : Option Int) : ∃ u : List Nat, cutS (tx z) a b = tx u ∧ (∀ c ∈ u, c ∈ z) ∧ u.length ≤ z.length := by
  unfold cutS
  rw [tx_list]
  refine ⟨_, rfl, fun c hc => List.mem_of_mem_drop (List.mem_of_mem_take hc), ?_⟩
  rw [List.length_take, List.length_drop]
  omega
theorem turn_still {l : List Nat} (g : GoodW l) {bs : List (List Nat)} (bar : ∀ b ∈ bs, isBar l b = true) : TurnOk l bs l := by
  have T : Trn l l := ⟨rfl, by rw [show l.map lwc = l from (List.map_congr_left fun c hc => lwc_small (g.sm c hc)).trans (List.map_id l)]⟩
  have os : ∀ s ∈ sds l, ov l l s = s := fun s hs => by
    obtain ⟨i, c, hc, e⟩ := (sds_at g).mp hs
    obtain ⟨o1, o2⟩ := ov_at g.sm g.nd hc hc
    rcases e with rfl | rfl
    · exact o1
    · exact o2
  refine ⟨T, fun r hr => ?_⟩
  have sd := rms_sd g bar hr
  unfold imL
  rw [show r.map (ov l l) = r from (List.map_congr_left fun s hs => os s (sd s hs)).trans (List.map_id r), byWT_self g sd]
  · exact hr
  · have hrl : r.map lwc = l := (room_low g r).mp (by unfold rms at hr; exact (List.mem_filter.mp hr).1)
    exact List.pairwise_map.mp (by rw [hrl]; exact g.rise)
/-- the families of refusals -/
structure EX (K : PySem.W.Frag) (mg : Str → Option Value) (CH CM CN CT CR : Addr) : Prop where
  gM : mg "Missing" = some (.ref CM)
  gN : mg "NothingLeft" = some (.ref CN)
  st : XfC K CT
  sr : XfC K CR
  mt : PySem.W.exmAny K (.ref CT) (fam CH CM CN) = some true
  mr : PySem.W.exmAny K (.ref CR) (fam CH CM CN) = some true
/-- the name of the law's lambdas -/
def lamN (c : Value) : Str := (envOfC "law" (defScope sLaw) 0 0 c).qual ++ "<lambda>"
def spLawT (K : PySem.W.Frag) (T : List (Addr × Str)) : Sp := fun vs H Q _ => ∃ (a : Addr) (ns : List Int), vs = [.ref a] ∧ SqL K H a (ns.map V.int) ∧ LamX.Tabs T H ∧ ∀ H', Q (.bl true) H'
structure Hlp (K : PySem.W.Frag) (mg : Str → Option Value) (fSt fDr fOf fMx fLe fShu fOth fWit fPai fAll fRms fFin fHal fIm fBs fSm fWor fRef fIst fChk fSh fSc fTu fOv fBh fBk fRo fOt fStt : Addr) (dSt dDr dOf dMx dLe dShu dOth dWit dPai dAll dRms dFin dHal dIm dBs dSm dWor dRef dIst dChk dSh dSc dTu dOv dBh dBk dRo dOt dStt : FuncData) : Prop where
  start : DF K mg "_law_start" sStart ["_law_script"] fSt dSt
  draw : DF K mg "_law_draw" sDraw ["_law_d", "_law_many"] fDr dDr
  of : DF K mg "_law_of" sOf ["_law_d", "_law_some"] fOf dOf
  mixed : DF K mg "_law_mixed" sLMix ["_law_d", "_law_some"] fMx dMx
  letters : DF K mg "_law_letters" sLetters [] fLe dLe
  shuts : DF K mg "_law_shuts" sShuts ["_law_d", "_law_most"] fShu dShu
  oth : DF K mg "_law_other" sOth ["_law_side"] fOth dOth
  wit : DF K mg "_law_within" sWithin ["_law_sides", "_law_room"] fWit dWit
  pairs : DF K mg "_law_pairs" sPairs ["_law_shuts_here"] fPai dPai
  all : DF K mg "_law_all" sAll ["_law_shuts_here"] fAll dAll
  rms : DF K mg "_law_rooms" sRooms ["_law_shuts_here", "_law_bars"] fRms dRms
  fine : DF K mg "_law_fine" sFine ["_law_shuts_here", "_law_rooms_here"] fFin dFin
  hall : DF K mg "_law_hall" sHall ["_law_d", "_law_most"] fHal dHal
  img : DF K mg "_law_image" sLImg ["_law_shuts_here", "_law_turn", "_law_sides"] fIm dIm
  bys : DF K mg "_law_by_shuts" sLByS ["_law_sides"] fBs dBs
  smt : DF K mg "_law_some_turn" sLSome ["_law_d", "_law_shuts_here"] fSm dSm
  word : DF K mg "_law_word" sWord ["_law_ask"] fWor dWor
  ref : DF K mg "_law_refused" sRef ["_law_ask", "_law_due"] fRef dRef
  ist : DF K mg "_law_is_turn" sLIsT ["_law_shuts_here", "_law_rooms_here", "_law_text"] fIst dIst
  chk : DF K mg "check_room" sChkRoom ["hall", "room"] fChk dChk
  sh : DF K mg "shut" sShut ["hall", "part"] fSh dSh
  sc : DF K mg "shut_calls" sShCalls ["hall", "calls", "most"] fSc dSc
  tu : DF K mg "turned" sTurned ["hall", "turn", "room"] fTu dTu
  ov : DF K mg "over" sOver ["hall", "turn", "part"] fOv dOv
  bh : DF K mg "turn_behind" sBehind ["hall", "one", "two"] fBh dBh
  bk : DF K mg "back_turn" sBack ["hall", "turn"] fBk dBk
  ro : DF K mg "round_of" sRound ["hall", "turn"] fRo dRo
  ot : DF K mg "of_turn" sOfTurn ["hall", "turn"] fOt dOt
  stt : DF K mg "steer_turning" sSteer ["hall", "calls", "turns", "room", "goal"] fStt dStt
  many : mg "any" = none
  ms : mg "str" = none
  mb : mg "bool" = none
  mz : mg "zip" = none
section
variable {P : Program} {w : World} {K : PySem.W.Frag} {mg : Str → Option Value} {base : Heap} {tw tc : Tok} {fOther fSides fByW fIsW fIsB fCW fCB fCS fSt' fRe fAF fCF fCA : Addr} {dOther dSides dByW dIsW dIsB dCW dCB dCS dSt' dRe dAF dCF dCA : FuncData}
    {CH iH CB iB CF iF CA iA CT iT CR iR CM CN CTb fTb : Addr} {eH eB eF eA eT eR dTb : FuncData} {C fi fb fm fr fg fw ff : Addr} {di db dm dr dg dw df : FuncData} {fIsP fChP fAFB fTw : Addr} {dIsP dChP dAFB dTw : FuncData} {fGo fSo fKe fIs fCt : Addr} {dGo dSo dKe dIs dCt : FuncData}
    {fSt fDr fOf fMx fLe fShu fOth fWit fPai fAll fRms fFin fHal fIm fBs fSm fWor fRef fIst fChk fSh fSc fTu fOv fBh fBk fRo fOt fStt : Addr} {dSt dDr dOf dMx dLe dShu dOth dWit dPai dAll dRms dFin dHal dIm dBs dSm dWor dRef dIst dChk dSh dSc dTu dOv dBh dBk dRo dOt dStt : FuncData}
set_option maxHeartbeats 16000000 in
theorem ok_law {f c PT_ : Addr} {kV doc pm ct oc : Value} {an od : Option Addr} {osl : Array (Option Value)} {k : Nat}
    (lk : K.lookup f = some ⟨oc, od, .func (PySem.W.fnOf "law" "law" (defArgs sLaw) (defBody sLaw) (defScope sLaw) .none kV doc pm an (.ref c) ct), osl⟩) (hcd : PySem.W.codeIn K (.ref c) "law" = true) (TB : LamX.TabB base mg c PT_) (X : EX K mg CH CM CN CT CR)
    (Z : HC K mg C fi fb di db) (M : HM K C fm fr fg dm dr dg) (Y : PT K mg C fw ff dw df fIsP fChP fAFB fTw dIsP dChP dAFB dTw) (U : TT_ K mg fGo fSo fKe fIs fCt dGo dSo dKe dIs dCt) (Tb : TbC K mg CTb fTb dTb)
    (XT : XC0 K mg "BadTurn" "BadTurn.__init__" sBTinit CT iT eT) (XR : XC0 K mg "BadRoom" "BadRoom.__init__" sBRinit CR iR eR) (mC : mg "MOST_CALLS" = some (.int 12 tc))
    (T : Txt8 K mg tw fOther fSides fByW fIsW fIsB fCW fCB fCS fSt' fRe fAF fCF fCA dOther dSides dByW dIsW dIsB dCW dCB dCS dSt' dRe dAF dCF dCA CH iH CB iB CF iF CA iA eH eB eF eA)
    (L : Hlp K mg fSt fDr fOf fMx fLe fShu fOth fWit fPai fAll fRms fFin fHal fIm fBs fSm fWor fRef fIst fChk fSh fSc fTu fOv fBh fBk fRo fOt fStt dSt dDr dOf dMx dLe dShu dOth dWit dPai dAll dRms dFin dHal dIm dBs dSm dWor dRef dIst dChk dSh dSc dTu dOv dBh dBk dRo dOt dStt) :
    FnOk P w K mg base CX0 (k + 13) f (PySem.W.fnOf "law" "law" (defArgs sLaw) (defBody sLaw) (defScope sLaw) .none kV doc pm an (.ref c) ct) ["_law_script"] (spLawT K [(PT_, lamN (.ref c))]) := by
  have B := T.B
  have GSt : FnOk P w K mg base CX0 (k + 1) fSt dSt ["_law_script"] (spStart K) := ok_start B L.start.F
  have GO : FnOk P w K mg base CX0 (k + 2) fOf dOf ["_law_d", "_law_some"] (spOf K) := ok_of B L.of.F L.draw
  have GHl : FnOk P w K mg base CX0 (k + 3) fHal dHal ["_law_d", "_law_most"] spHall := ok_hall B L.many L.hall.F L.draw L.of L.letters L.shuts L.oth L.wit L.pairs L.all L.rms L.fine
  have GT : FnOk P w K mg base CX0 (k + 3) fSm dSm ["_law_d", "_law_shuts_here"] spSomeT := ok_someT B L.smt.F L.draw L.mixed
  have GIs : FnOk P w K mg base CX0 (k + 4) fIst dIst ["_law_shuts_here", "_law_rooms_here", "_law_text"] (spLIsT K) := ok_lisT B L.mz L.ist.F L.img L.letters L.oth L.bys
  have GH : FnOk P w K mg base (L2.CX P w) (k + 5) fi di ["self", "walls", "bars"] (spHinit K C CB CF CA) := ok_Hinit Z T
  have GTu : FnOk P w K mg base (L2.CX P w) (k + 7) fTu dTu ["hall", "turn", "room"] (spTurnedX C CT) := ok_TurnedX B Z Y.Y T.cs T.S T.O T.Y U T.he XT L.tu.F
  have GOv : FnOk P w K mg base (L2.CX P w) (k + 7) fOv dOv ["hall", "turn", "part"] (spOverX C CT) := ok_OverX B Z Y.Y T.cs T.S T.O T.Y U T.he XT L.ov.F
  have GB1 : FnOk P w K mg base (L2.CX P w) (k + 7) fBh dBh ["hall", "one", "two"] (spBehind1X C CT) := ok_Behind1X B Z Y.Y T.cs T.S T.O T.Y U T.he XT L.bh.F
  have GB2 : FnOk P w K mg base (L2.CX P w) (k + 7) fBh dBh ["hall", "one", "two"] (spBehind2X C CT) := ok_turn_behind2X B Z Y.Y T.cs T.S T.O T.Y U T.he XT L.bh.F
  have GBk : FnOk P w K mg base (L2.CX P w) (k + 7) fBk dBk ["hall", "turn"] (spBackX C CT) := ok_BackX B Z Y.Y T.cs T.S T.O T.Y U T.he XT L.bk.F
  have GRo : FnOk P w K mg base (L2.CX P w) (k + 7) fRo dRo ["hall", "turn"] (spRoundX C CT) := ok_RoundX B Z Y.Y T.cs T.S T.O T.Y U T.he XT L.ro.F
  have GOt : FnOk P w K mg base (L2.CX P w) (k + 8) fOt dOt ["hall", "turn"] (spOfTurnX C CT) := ok_ofTurnX B Z Y.Y T.cs T.S T.O T.Y U T.he XT Tb L.bk L.ot.F
  have GSt1 : FnOk P w K mg base (L2.CX P w) (k + 8) fStt dStt ["hall", "calls", "turns", "room", "goal"] (spSteerT K C CT) := ok_steerT B Z Y.Y T.cs T.S T.O T.Y U T.he XT Y L.sh L.sc mC L.stt.F
  have GTr : FnOk P w K mg base (L2.CX P w) (k + 7) fTu dTu ["hall", "turn", "room"] (spTurnedR C CR) := ok_turnedR B Z Y.Y T.cs T.S T.O T.Y U L.many M T.he XR L.chk L.tu.F
  have GSr : FnOk P w K mg base (L2.CX P w) (k + 8) fStt dStt ["hall", "calls", "turns", "room", "goal"] (spSteerR K C CR) := ok_steerR B Z Y.Y T.cs T.S T.O T.Y U L.many M T.he XR L.chk Y L.sh L.sc mC L.stt.F
  have UR : Uses P w K mg base (k + 9) (k + 12) fRef dRef ["_law_ask", "_law_due"] (spRef K CH CM CN) := ok_ref L.ref.F L.word T.he.gC X.gM X.gN
  refine fn_of lk hcd scLaw (fun vs H Q E h => ?_) (fun A outer st H vs Q E hr h => ?_)
  · obtain ⟨a, ns, rfl, _⟩ := h
    rfl
  · obtain ⟨a, ns, rfl, hS, hT, q⟩ := h
    have r1 : Room (k + 1) _ := hr.mono (by omega)
    have r2 : Room (k + 2) _ := hr.mono (by omega)
    have r3 : Room (k + 3) _ := hr.mono (by omega)
    have r4 : Room (k + 4) _ := hr.mono (by omega)
    have r6 : Room (k + 6) _ := hr.mono (by omega)
    have nd := scLaw.nd
    have hu := hr.units
    refine ⟨_, PSs.nox (pss_cons (ps_set (i := 1) nd rfl (.inl rfl) (pe_call GSt r1 rfl L.start.g L.start.F.kp L.start.b .nil pass0 (pa_cons (pv 0) pa_nil)))
      (pss_cons (ps_asg (pe_call GHl r3 rfl L.hall.g L.hall.F.kp L.hall.b .nil pass0 (pa_cons (pv 1) (pa_cons pe_int pa_nil))) (pg_lst rfl (pgs_cons (pg_name (i := 10) nd rfl (.inr rfl)) (pgs_cons (pg_name (i := 2) nd rfl (.inl rfl)) (pgs_cons (pg_name (i := 3) nd rfl (.inl rfl)) pgs_nil)))))
      (pss_cons (ps_set (i := 7) nd rfl (.inr rfl) (pe_make (E := E0) Z.mks GH r6 rfl Z.gC Z.b .nil passF (pa_cons (pv 10) (pa_cons (pv 2) pa_nil))))
      (pss_cons (ps_set (i := 9) nd rfl (.inr rfl) (pe_call GO r2 rfl L.of.g L.of.F.kp L.of.b .nil pass0 (pa_cons (pv 1) (pa_cons (pv 3) pa_nil))))
      (pss_cons (ps_for PassesOwn.never rfl (pi_range1 (by rfl) B.range (pa_cons pe_int pa_nil)) (pg_name (i := 4) nd rfl (.inl rfl))
      (pss_cons (ps_set (i := 5) nd rfl (.inl rfl) (pe_lst (pa_cons (pe_call GT r3 rfl L.smt.g L.smt.F.kp L.smt.b .nil pass0 (pa_cons (pv 1) (pa_cons (pv 10) pa_nil))) (pa_cons (pe_op op_add_str (pv 10) pe_str) (pa_cons pe_str (pa_cons (pe_slice sl_str (pv 10) (po_some pe_int) po_none) (pa_cons (pe_op op_add_str (pe_slice sl_str (pv 10) po_none (po_some (pe_un un_neg pe_int))) pe_str) pa_nil)))))))
      (pss_cons (ps_set (i := 8) nd rfl (.inr rfl) (pe_call GO r2 rfl L.of.g L.of.F.kp L.of.b .nil pass0 (pa_cons (pv 1) (pa_cons (pv 5) pa_nil))))
      (pss_cons (ps_if (pt_val (pe_call GIs r4 rfl L.ist.g L.ist.F.kp L.ist.b .nil pass0 (pa_cons (pv 10) (pa_cons (pv 3) (pa_cons (pv 8) pa_nil))))) (pss_one ps_continue) pss_nil)
      (pss_cons (ps_set (i := 6) nd rfl (.inl rfl) (pe_lst (pa_cons (pe_lam (T := [(PT_, lamN (.ref c))]) (k := k + 9) (t := fun E => tCall (spTurnedX C CT) [] E (tCons (tVar 7) (tCons (tVar 8) (tCons (tC (.str "")) tNil)))) TB rfl (List.mem_cons_self ..) (fun p hp _ => by rw [List.mem_singleton.mp hp]; rfl)
            (LamX.lamS_by (sc := defScope sLaw) (by decide +kernel)) rfl (fun _ _ _ _ _ => rfl)
            (fun A out s H E f c' hr2 => pe_call (E := E) GTu (hr2.mono (by omega)) rfl L.tu.g L.tu.F.kp L.tu.b .nil (passes_call (takes_of rfl rfl rfl rfl) (fun _ _ _ _ h => h)) (pa_cons (pv 7) (pa_cons (pv 8) (pa_cons pe_str pa_nil))))) pa_nil)))
      (pss_cons (ps_expr (pe_bm PySem.F.plainAttrs_list PySem.F.slot_list_append PySem.F.type_list_append mt_append (pv 6) (pa_cons (pe_lam (T := [(PT_, lamN (.ref c))]) (k := k + 9) (t := fun E => tCall (spOverX C CT) [] E (tCons (tVar 7) (tCons (tVar 8) (tCons (tC (.str "??")) tNil)))) TB rfl (List.mem_cons_self ..) (fun p hp _ => by rw [List.mem_singleton.mp hp]; rfl)
            (LamX.lamS_by (sc := defScope sLaw) (by decide +kernel)) rfl (fun _ _ _ _ _ => rfl)
            (fun A out s H E f c' hr2 => pe_call (E := E) GOv (hr2.mono (by omega)) rfl L.ov.g L.ov.F.kp L.ov.b .nil (passes_call (takes_of rfl rfl rfl rfl) (fun _ _ _ _ h => h)) (pa_cons (pv 7) (pa_cons (pv 8) (pa_cons pe_str pa_nil))))) pa_nil)))
      (pss_cons (ps_expr (pe_bm PySem.F.plainAttrs_list PySem.F.slot_list_append PySem.F.type_list_append mt_append (pv 6) (pa_cons (pe_lam (T := [(PT_, lamN (.ref c))]) (k := k + 9) (t := fun E => tCall (spBehind1X C CT) [] E (tCons (tVar 7) (tCons (tVar 8) (tCons (tVar 10) tNil)))) TB rfl (List.mem_cons_self ..) (fun p hp _ => by rw [List.mem_singleton.mp hp]; rfl)
            (LamX.lamS_by (sc := defScope sLaw) (by decide +kernel)) rfl (fun _ _ _ _ _ => rfl)
            (fun A out s H E f c' hr2 => pe_call (E := E) GB1 (hr2.mono (by omega)) rfl L.bh.g L.bh.F.kp L.bh.b .nil (passes_call (takes_of rfl rfl rfl rfl) (fun _ _ _ _ h => h)) (pa_cons (pv 7) (pa_cons (pv 8) (pa_cons (pv 10) pa_nil))))) pa_nil)))
      (pss_cons (ps_expr (pe_bm PySem.F.plainAttrs_list PySem.F.slot_list_append PySem.F.type_list_append mt_append (pv 6) (pa_cons (pe_lam (T := [(PT_, lamN (.ref c))]) (k := k + 9) (t := fun E => tCall (spBehind2X C CT) [] E (tCons (tVar 7) (tCons (tVar 10) (tCons (tVar 8) tNil)))) TB rfl (List.mem_cons_self ..) (fun p hp _ => by rw [List.mem_singleton.mp hp]; rfl)
            (LamX.lamS_by (sc := defScope sLaw) (by decide +kernel)) rfl (fun _ _ _ _ _ => rfl)
            (fun A out s H E f c' hr2 => pe_call (E := E) GB2 (hr2.mono (by omega)) rfl L.bh.g L.bh.F.kp L.bh.b .nil (passes_call (takes_of rfl rfl rfl rfl) (fun _ _ _ _ h => h)) (pa_cons (pv 7) (pa_cons (pv 10) (pa_cons (pv 8) pa_nil))))) pa_nil)))
      (pss_cons (ps_expr (pe_bm PySem.F.plainAttrs_list PySem.F.slot_list_append PySem.F.type_list_append mt_append (pv 6) (pa_cons (pe_lam (T := [(PT_, lamN (.ref c))]) (k := k + 9) (t := fun E => tCall (spBackX C CT) [] E (tCons (tVar 7) (tCons (tVar 8) tNil))) TB rfl (List.mem_cons_self ..) (fun p hp _ => by rw [List.mem_singleton.mp hp]; rfl)
            (LamX.lamS_by (sc := defScope sLaw) (by decide +kernel)) rfl (fun _ _ _ _ _ => rfl)
            (fun A out s H E f c' hr2 => pe_call (E := E) GBk (hr2.mono (by omega)) rfl L.bk.g L.bk.F.kp L.bk.b .nil (passes_call (takes_of rfl rfl rfl rfl) (fun _ _ _ _ h => h)) (pa_cons (pv 7) (pa_cons (pv 8) pa_nil)))) pa_nil)))
      (pss_cons (ps_expr (pe_bm PySem.F.plainAttrs_list PySem.F.slot_list_append PySem.F.type_list_append mt_append (pv 6) (pa_cons (pe_lam (T := [(PT_, lamN (.ref c))]) (k := k + 9) (t := fun E => tCall (spRoundX C CT) [] E (tCons (tVar 7) (tCons (tVar 8) tNil))) TB rfl (List.mem_cons_self ..) (fun p hp _ => by rw [List.mem_singleton.mp hp]; rfl)
            (LamX.lamS_by (sc := defScope sLaw) (by decide +kernel)) rfl (fun _ _ _ _ _ => rfl)
            (fun A out s H E f c' hr2 => pe_call (E := E) GRo (hr2.mono (by omega)) rfl L.ro.g L.ro.F.kp L.ro.b .nil (passes_call (takes_of rfl rfl rfl rfl) (fun _ _ _ _ h => h)) (pa_cons (pv 7) (pa_cons (pv 8) pa_nil)))) pa_nil)))
      (pss_cons (ps_expr (pe_bm PySem.F.plainAttrs_list PySem.F.slot_list_append PySem.F.type_list_append mt_append (pv 6) (pa_cons (pe_lam (T := [(PT_, lamN (.ref c))]) (k := k + 9) (t := fun E => tCall (spOfTurnX C CT) [] E (tCons (tVar 7) (tCons (tVar 8) tNil))) TB rfl (List.mem_cons_self ..) (fun p hp _ => by rw [List.mem_singleton.mp hp]; rfl)
            (LamX.lamS_by (sc := defScope sLaw) (by decide +kernel)) rfl (fun _ _ _ _ _ => rfl)
            (fun A out s H E f c' hr2 => pe_call (E := E) GOt (hr2.mono (by omega)) rfl L.ot.g L.ot.F.kp L.ot.b .nil (passes_call (takes_of rfl rfl rfl rfl) (fun _ _ _ _ h => h)) (pa_cons (pv 7) (pa_cons (pv 8) pa_nil)))) pa_nil)))
      (pss_cons (ps_expr (pe_bm PySem.F.plainAttrs_list PySem.F.slot_list_append PySem.F.type_list_append mt_append (pv 6) (pa_cons (pe_lam (T := [(PT_, lamN (.ref c))]) (k := k + 9) (t := fun E => tCall (spSteerT K C CT) [] E (tCons (tVar 7) (tCons (tLst (tCons (tC (.str "")) tNil)) (tCons (tLst (tCons (tVar 10) (tCons (tVar 8) tNil))) (tCons (tC (.str "")) (tCons (tVar 9) tNil)))))) TB rfl (List.mem_cons_self ..) (fun p hp _ => by rw [List.mem_singleton.mp hp]; rfl)
            (LamX.lamS_by (sc := defScope sLaw) (by decide +kernel)) rfl (fun _ _ _ _ _ => rfl)
            (fun A out s H E f c' hr2 => pe_call (E := E) GSt1 (hr2.mono (by omega)) rfl L.stt.g L.stt.F.kp L.stt.b .nil (passes_call (takes_of rfl rfl rfl rfl) (fun _ _ _ _ h => h)) (pa_cons (pv 7) (pa_cons (pe_lst (pa_cons pe_str pa_nil)) (pa_cons (pe_lst (pa_cons (pv 10) (pa_cons (pv 8) pa_nil))) (pa_cons pe_str (pa_cons (pv 9) pa_nil))))))) pa_nil)))
      (pss_one (ps_if (pt_not (pt_val (pe_callB (cr_all rfl) (by rfl) B.all (by decide +kernel) (pa_cons (pe_lcI (own := [("_law_ask", 11)]) (g := gName 11) rfl nd (pi_list (pv 6)) (blkOk_by (N := nLaw) (sc := defScope sLaw) (by decide +kernel)) (fun _ _ _ _ _ => pg_name (i := 11) nd rfl (Or.inl rfl)) (fun pins σ v G C cl fp I hf => pe_usesB I hf UR hr (by rfl) L.ref.g L.ref.F.kp L.ref.b (pa_cons (pv 11) (pa_cons pe_str pa_nil)))) pa_nil)))) (pss_one (ps_ret pe_bl)) pss_nil))))))))))))))
      (pss_cons (ps_set (i := 6) nd rfl (.inl rfl) (pe_lst (pa_cons (pe_lam (T := [(PT_, lamN (.ref c))]) (k := k + 9) (t := fun E => tCall (spTurnedR C CR) [] E (tCons (tVar 7) (tCons (tVar 10) (tCons (tOp (fun x y H Q => ∃ i j, x = V.str i ∧ y = V.str j ∧ i.length + j.length ≤ sizeLine ∧ Q (V.str (i ++ j)) H) (tVar 9) (tC (.str "a"))) tNil)))) TB rfl (List.mem_cons_self ..) (fun p hp _ => by rw [List.mem_singleton.mp hp]; rfl)
            (LamX.lamS_by (sc := defScope sLaw) (by decide +kernel)) rfl (fun _ _ _ _ _ => rfl)
            (fun A out s H E f c' hr2 => pe_call (E := E) GTr (hr2.mono (by omega)) rfl L.tu.g L.tu.F.kp L.tu.b .nil (passes_call (takes_of rfl rfl rfl rfl) (fun _ _ _ _ h => h)) (pa_cons (pv 7) (pa_cons (pv 10) (pa_cons (pe_op op_add_str (pv 9) pe_str) pa_nil))))) pa_nil)))
      (pss_cons (ps_expr (pe_bm PySem.F.plainAttrs_list PySem.F.slot_list_append PySem.F.type_list_append mt_append (pv 6) (pa_cons (pe_lam (T := [(PT_, lamN (.ref c))]) (k := k + 9) (t := fun E => tCall (spSteerR K C CR) [] E (tCons (tVar 7) (tCons (tLst tNil) (tCons (tLst (tCons (tVar 10) tNil)) (tCons (tVar 9) (tCons (tC (.str "")) tNil)))))) TB rfl (List.mem_cons_self ..) (fun p hp _ => by rw [List.mem_singleton.mp hp]; rfl)
            (LamX.lamS_by (sc := defScope sLaw) (by decide +kernel)) rfl (fun _ _ _ _ _ => rfl)
            (fun A out s H E f c' hr2 => pe_call (E := E) GSr (hr2.mono (by omega)) rfl L.stt.g L.stt.F.kp L.stt.b .nil (passes_call (takes_of rfl rfl rfl rfl) (fun _ _ _ _ h => h)) (pa_cons (pv 7) (pa_cons (pe_lst pa_nil) (pa_cons (pe_lst (pa_cons (pv 10) pa_nil)) (pa_cons (pv 9) (pa_cons pe_str pa_nil))))))) pa_nil)))
      (pss_cons (ps_expr (pe_bm PySem.F.plainAttrs_list PySem.F.slot_list_append PySem.F.type_list_append mt_append (pv 6) (pa_cons (pe_lam (T := [(PT_, lamN (.ref c))]) (k := k + 9) (t := fun E => tCall (spSteerR K C CR) [] E (tCons (tVar 7) (tCons (tLst tNil) (tCons (tLst tNil) (tCons (tC (.str "")) (tCons (tVar 9) tNil)))))) TB rfl (List.mem_cons_self ..) (fun p hp _ => by rw [List.mem_singleton.mp hp]; rfl)
            (LamX.lamS_by (sc := defScope sLaw) (by decide +kernel)) rfl (fun _ _ _ _ _ => rfl)
            (fun A out s H E f c' hr2 => pe_call (E := E) GSr (hr2.mono (by omega)) rfl L.stt.g L.stt.F.kp L.stt.b .nil (passes_call (takes_of rfl rfl rfl rfl) (fun _ _ _ _ h => h)) (pa_cons (pv 7) (pa_cons (pe_lst pa_nil) (pa_cons (pe_lst pa_nil) (pa_cons pe_str (pa_cons (pv 9) pa_nil))))))) pa_nil)))
      (pss_one (ps_ret (pe_callB (cr_all rfl) (by rfl) B.all (by decide +kernel) (pa_cons (pe_lcI (own := [("_law_ask", 11)]) (g := gName 11) rfl nd (pi_list (pv 6)) (blkOk_by (N := nLaw) (sc := defScope sLaw) (by decide +kernel)) (fun _ _ _ _ _ => pg_name (i := 11) nd rfl (Or.inl rfl)) (fun pins σ v G C cl fp I hf => pe_usesB I hf UR hr (by rfl) L.ref.g L.ref.F.kp L.ref.b (pa_cons (pv 11) (pa_cons pe_str pa_nil)))) pa_nil)))))))))))), ?_⟩
    refine ⟨_, rfl, a, ns, rfl, hS, fun H0 d s0 nd0 D0 => ?_⟩
    refine ⟨_, rfl, d, 5, rfl, D0, by decide, by decide, fun H1 l bs Tl bA rA s1 D1 ho hln nbd nrd eT eb er => ?_⟩
    have T1 := tabs_smx (hT.ext s0) D0 s1.1
    have g := ho.g
    have hl5 : l.length ≤ 5 := by omega
    refine ⟨Tl, _, rfl, SqL.of eT, rfl, _, _, rfl, _, _, rfl, _, _, rfl, rfl, ?_⟩
    have fok := first_ok ho.bar ho.nd
    have bok := bars_ok g ho.bar
    obtain ⟨c0, hc0⟩ := D1.head
    obtain ⟨rr, hd1⟩ := id hc0
    refine ⟨_, rfl, _, rfl, fun x dx nx ndx nne => ?_⟩
    have s8 : Same H1 (upd (upd H1 dx (.own x)) x (.ins C dx [])) := sm_upd (same_upd ndx) (by rw [upd_ne (Ne.symm nne)]; exact nx)
    refine ⟨x, dx, l, bA, bs, rfl, upd_same, g, bok, by have := ho.len; omega, sm_l s8 (SqL.of eb), ?_⟩
    rw [fok]
    intro fo hfo
    have foI := hfo.iff g ho.bar
    rw [ho.ok fo foI]
    intro H2 sb D ys s9 nsb nD hat hp hso
    refine ⟨rfl, ?_⟩
    have s2 : Same H1 H2 := fun b o hb => s9 b o (ne_of_none hb nx) (s8 b o hb)
    have nsd : sb ≠ d := Ne.symm (ne_of_none (s8 _ _ hd1) nsb)
    have S2 : St7 [(PT_, lamN (.ref c))] d c0 rA (((rms l bs).map tx).map V.str) C x dx sb D l ys fo H2 := ⟨⟨D1.same s2, ⟨rr, s2 _ _ hd1⟩, s2 _ _ er, hat⟩, T1.ext s2⟩
    have hgo : ∀ {H'}, St7 [(PT_, lamN (.ref c))] d c0 rA (((rms l bs).map tx).map V.str) C x dx sb D l ys fo H' → HallN C H' x dx sb D l ys fo bs := fun S => ⟨⟨⟨S.S.hA, g, ho.bar, hp, by have := ho.len; omega, ho.ok⟩, foI, fun s hs => hfo.len g hs⟩, fun s hs => hfo.nf g hs⟩
    have rl10 : (rms l bs).length ≤ 1000 := by
      unfold rms
      refine Nat.le_trans (List.length_filter_le _ _) ?_
      rw [allT_len]
      exact Nat.le_trans (Nat.pow_le_pow_right (by decide) hl5) (by decide)
    have ll : (((rms l bs).map tx).map V.str).length = (rms l bs).length := by rw [List.length_map, List.length_map]
    have rpos : 0 < (rms l bs).length := List.length_pos_iff.mpr ho.ne
    have e1 : (Str.ofString "") = tx [] := by decide +kernel
    have okT : okS "badturn" := by
      rw [show (Str.ofString "badturn") = tx [98, 97, 100, 116, 117, 114, 110] by decide +kernel]
      exact okS_tx (by decide)
    have okR : okS "badroom" := by
      rw [show (Str.ofString "badroom") = tx [98, 97, 100, 114, 111, 111, 109] by decide +kernel]
      exact okS_tx (by decide)
    refine ⟨_, rfl, _, rfl, d, _, rfl, S2.S.dr, .inl ⟨rA, _, rfl, nrd, SqL.of S2.S.rA, by rw [ll]; exact rpos, by rw [ll]; exact rl10, fun H3 v j s3 D3 hv => ?_⟩⟩
    rw [List.getElem?_map, List.getElem?_map] at hv
    obtain ⟨z, hz, rfl⟩ := Option.map_eq_some_iff.mp hv
    obtain ⟨room, hr0, rfl⟩ := Option.map_eq_some_iff.mp hz
    have hroom : room ∈ rms l bs := List.mem_of_getElem? hr0
    have rlt := rms_lets g room hroom
    have rasc : ∀ e ∈ room, e < 128 := fun e he => (rlt.2 e he).asc
    have S3 := S2.smd nrd nsd s3 D3
    have ts := turn_still g ho.bar
    have pn : Part l [] := ⟨by simp, fun _ h => by cases h⟩
    have hl1 := g.lo
    have lasc : ∀ e ∈ l, e < 128 := fun e he => by have := g.sm e he; omega
    refine ⟨5, rfl, by decide, by decide, ?_⟩
    refine for_it walk_range (fun i σ H' => ∃ (y4 y5 y6 y8 y11 : Option V), σ = [some (.ref a), some (.ref d), some (.ref bA), some (.ref rA), y4, y5, y6, some (.ref x), y8, some (.str (tx room)), some (.str (tx l)), y11] ∧ St7 [(PT_, lamN (.ref c))] d c0 rA (((rms l bs).map tx).map V.str) C x dx sb D l ys fo H') ⟨_, _, _, _, _, rfl, S3⟩ (fun _ _ _ _ _ => trivial) ?_ ?_
    · rintro i0 v σ Ha Hb hi0 ⟨y4, y5, y6, y8, y11, rfl, Sa⟩ ⟨rfl, rfl⟩
      refine ⟨_, rfl, _, rfl, d, l, rfl, Sa.S.dr, g, fun H4 t s4 D4 ht => ?_⟩
      have S4 := Sa.smd nrd nsd s4 D4
      have hz : (tx l).length ≤ sizeLine := by rw [tx_len, sizeLine_eq]; omega
      obtain ⟨u, eu, hu, ul⟩ := cutS_in l none (some (-1))
      refine ⟨_, rfl, _, _, rfl, rfl, by rw [tx_len, show (Str.ofString "a") = tx [97] by decide +kernel, tx_len, sizeLine_eq]; show _ + 1 ≤ _; omega, ?_⟩
      rw [show (Str.ofString "a") = tx [97] by decide +kernel, tx_app]
      refine ⟨_, rfl, _, rfl, _, rfl, hz, ?_⟩
      rw [show (1 : Int) = ((1 : Nat) : Int) from rfl, cutS_from]
      refine ⟨_, rfl, _, rfl, _, rfl, _, rfl, hz, ?_⟩
      rw [show -((1 : Nat) : Int) = (-1 : Int) from rfl, eu]
      refine ⟨_, _, rfl, rfl, by rw [tx_len, show (Str.ofString "?") = tx [63] by decide +kernel, tx_len, sizeLine_eq]; show _ + 1 ≤ _; omega, ?_⟩
      rw [show (Str.ofString "?") = tx [63] by decide +kernel, tx_app, e1]
      refine ⟨by show 5 ≤ sizeLine; decide, fun p0 np0 => ?_⟩
      have S4p := S4.same (same_upd (o := .lst [V.str (tx t), .str (tx (l ++ [97])), .str (tx []), .str (tx (l.drop 1)), .str (tx (u ++ [63]))]) np0)
      refine ⟨_, rfl, _, rfl, d, _, rfl, S4p.S.dr, .inl ⟨p0, _, rfl, S4.S.dr.ne np0, SqL.of upd_same, by show 1 ≤ 5; decide, by show 5 ≤ 1000; decide, fun H5 v j s5 D5 hv => ?_⟩⟩
      obtain ⟨odd, rfl, oa, ol⟩ : ∃ odd : List Nat, v = .str (tx odd) ∧ (∀ e ∈ odd, e < 128) ∧ odd.length ≤ 60 := by
        match j, hv with
        | 0, hv => cases hv; exact ⟨t, rfl, fun e he => (Trn.lt g ht e he).asc, by rw [ht.len]; omega⟩
        | 1, hv =>
          cases hv
          exact ⟨l ++ [97], rfl, fun e he => (List.mem_append.mp he).elim (lasc e) (fun z => by rw [List.mem_singleton.mp z]; decide), by rw [List.length_append]; show _ + 1 ≤ 60; omega⟩
        | 2, hv => cases hv; exact ⟨[], rfl, fun e he => (by cases he), by decide⟩
        | 3, hv => cases hv; exact ⟨l.drop 1, rfl, fun e he => lasc e (List.mem_of_mem_drop he), by rw [List.length_drop]; omega⟩
        | 4, hv =>
          cases hv
          exact ⟨u ++ [63], rfl, fun e he => (List.mem_append.mp he).elim (fun z => lasc e (hu e z)) (fun z => by rw [List.mem_singleton.mp z]; decide), by rw [List.length_append]; show _ + 1 ≤ 60; omega⟩
      have S5 := S4p.smd nrd nsd s5 D5
      refine ⟨_, rfl, _, rfl, _, rfl, l, rA, odd, bs, rfl, g, hl5, ho.bar, SqL.of S5.S.rA, oa, ol, fun H6 b s6 hb => ?_⟩
      have S6 := S5.same s6
      refine ⟨_, rfl, ite2 (fun t => ?_) (fun t => ?_)⟩
      · exact ⟨_, _, _, _, _, rfl, S6⟩
      have no : ¬ TurnOk l bs odd := fun z => absurd (hb.mpr z) t
      have mkN : ∀ {G : Hp} {E : XK}, St7 [(PT_, lamN (.ref c))] d c0 rA (((rms l bs).map tx).map V.str) C x dx sb D l ys fo G → BadF CT "badturn" G E → NoT C CT G x (.str (tx odd)) E := fun S hE => ⟨dx, sb, D, l, ys, fo, bs, odd, rfl, hgo S, oa, ol, no, hE⟩
      refine ⟨S6.T, fun af1 aG1 ax1 at1 al1 => ⟨by show 1 ≤ sizeLine; decide, fun aLA anLA => ?_⟩⟩
      have aA1 := S6.ext ax1 at1
      have aK1 := Kp.one (Sx := fun G => St7 [(PT_, lamN (.ref c))] d c0 rA (((rms l bs).map tx).map V.str) C x dx sb D l ys fo G) al1 anLA (aA1.same (same_upd anLA))
      refine ⟨_, rfl, .inl ⟨rfl, _, SqL.of aK1.e⟩, aK1.S.T, fun af2 aG2 ax2 at2 al2 => ⟨aLA, _, _, rfl, rfl, ax2 _ _ aK1.e (fun _ z => by cases z), by show 1 < sizeLine; decide, ?_⟩⟩
      have aK2 := aK1.snoc ax2 al2 (aA1.put anLA (aK1.S.ext ax2 at2) (ax2 _ _ aK1.e (fun _ z => by cases z)))
      refine ⟨_, rfl, .inl ⟨rfl, _, SqL.of aK2.e⟩, aK2.S.T, fun af3 aG3 ax3 at3 al3 => ⟨aLA, _, _, rfl, rfl, ax3 _ _ aK2.e (fun _ z => by cases z), by show 2 < sizeLine; decide, ?_⟩⟩
      have aK3 := aK2.snoc ax3 al3 (aA1.put anLA (aK2.S.ext ax3 at3) (ax3 _ _ aK2.e (fun _ z => by cases z)))
      refine ⟨_, rfl, .inl ⟨rfl, _, SqL.of aK3.e⟩, aK3.S.T, fun af4 aG4 ax4 at4 al4 => ⟨aLA, _, _, rfl, rfl, ax4 _ _ aK3.e (fun _ z => by cases z), by show 3 < sizeLine; decide, ?_⟩⟩
      have aK4 := aK3.snoc ax4 al4 (aA1.put anLA (aK3.S.ext ax4 at4) (ax4 _ _ aK3.e (fun _ z => by cases z)))
      refine ⟨_, rfl, .inl ⟨rfl, _, SqL.of aK4.e⟩, aK4.S.T, fun af5 aG5 ax5 at5 al5 => ⟨aLA, _, _, rfl, rfl, ax5 _ _ aK4.e (fun _ z => by cases z), by show 4 < sizeLine; decide, ?_⟩⟩
      have aK5 := aK4.snoc ax5 al5 (aA1.put anLA (aK4.S.ext ax5 at5) (ax5 _ _ aK4.e (fun _ z => by cases z)))
      refine ⟨_, rfl, .inl ⟨rfl, _, SqL.of aK5.e⟩, aK5.S.T, fun af6 aG6 ax6 at6 al6 => ⟨aLA, _, _, rfl, rfl, ax6 _ _ aK5.e (fun _ z => by cases z), by show 5 < sizeLine; decide, ?_⟩⟩
      have aK6 := aK5.snoc ax6 al6 (aA1.put anLA (aK5.S.ext ax6 at6) (ax6 _ _ aK5.e (fun _ z => by cases z)))
      refine ⟨_, rfl, .inl ⟨rfl, _, SqL.of aK6.e⟩, aK6.S.T, fun af7 aG7 ax7 at7 al7 => ⟨aLA, _, _, rfl, rfl, ax7 _ _ aK6.e (fun _ z => by cases z), by show 6 < sizeLine; decide, ?_⟩⟩
      have aK7 := aK6.snoc ax7 al7 (aA1.put anLA (aK6.S.ext ax7 at7) (ax7 _ _ aK6.e (fun _ z => by cases z)))
      refine ⟨_, rfl, .inl ⟨rfl, _, SqL.of aK7.e⟩, aK7.S.T, fun af8 aG8 ax8 at8 al8 => ⟨aLA, _, _, rfl, rfl, ax8 _ _ aK7.e (fun _ z => by cases z), by show 7 < sizeLine; decide, ?_⟩⟩
      have aK8 := aK7.snoc ax8 al8 (aA1.put anLA (aK7.S.ext ax8 at8) (ax8 _ _ aK7.e (fun _ z => by cases z)))
      have aeA := aK8.e
      have aSA := aK8.S
      have alo := aK8.lo
      generalize (upd aG8 aLA _) = aGZ at aeA aSA alo ⊢
      refine ⟨_, rfl, aLA, rfl, ⟨_, SqL.of aeA⟩, fun aDe ane => ?_⟩
      refine lc_it (walk_list (K := K) (a := aLA) (xs := _)) (fun i H' => Same aGZ H' ∧ H' aDe = some (.lst ((List.replicate i true).map V.bl))) ⟨same_upd ane, upd_same⟩ (fun i H' _ h => SqL.of (h.1 _ _ aeA)) ?_ ?_
      · rintro i v Hc Hd hi ⟨ua, ea⟩ ⟨rfl, hv⟩
        have Sz := aSA.same ua
        rw [List.getElem?_map] at hv
        obtain ⟨fi, hfi, rfl⟩ := Option.map_eq_some_iff.mp hv
        have hin : i < 8 := hi
        have cont : ∀ G', Same Hd G' → ∃ acc, G' aDe = some (.lst acc) ∧ acc.length < sizeLine ∧ Same aGZ (upd G' aDe (.lst (acc ++ [.bl true]))) ∧ (upd G' aDe (.lst (acc ++ [.bl true]))) aDe = some (.lst ((List.replicate (i + 1) true).map V.bl)) := fun G' s' => by
          refine ⟨_, s' _ _ ea, ?_, sm_over (sm_trans ua s') ane, ?_⟩
          · rw [List.length_map, List.length_replicate, sizeLine_eq]
            omega
          · rw [upd_same, List.replicate_succ', List.map_append]
            rfl
        match i, hin, hfi, cont with
        | 0, _, hfi, cont => exact ⟨rfl, yes_i ⟨_, rfl, rfl, ref_yesF ((alo 0 _ _ hfi rfl).same ua) okT X.mt X.st XT.hw (fun E R hE => ⟨_, rfl, _, rfl, x, _, _, rfl, mkN Sz hE⟩) cont⟩⟩
        | 1, _, hfi, cont => exact ⟨rfl, yes_i ⟨_, rfl, rfl, ref_yesF ((alo 1 _ _ hfi rfl).same ua) okT X.mt X.st XT.hw (fun E R hE => ⟨_, rfl, _, rfl, x, _, _, rfl, mkN Sz hE⟩) cont⟩⟩
        | 2, _, hfi, cont => exact ⟨rfl, yes_i ⟨_, rfl, rfl, ref_yesF ((alo 2 _ _ hfi rfl).same ua) okT X.mt X.st XT.hw (fun E R hE => ⟨_, rfl, _, rfl, _, rfl, x, _, _, rfl, mkN Sz hE⟩) cont⟩⟩
        | 3, _, hfi, cont => exact ⟨rfl, yes_i ⟨_, rfl, rfl, ref_yesF ((alo 3 _ _ hfi rfl).same ua) okT X.mt X.st XT.hw (fun E R hE => ⟨_, rfl, _, rfl, _, rfl, x, dx, sb, D, l, ys, fo, bs, l, _, rfl, hgo Sz, ts, mkN Sz hE⟩) cont⟩⟩
        | 4, _, hfi, cont => exact ⟨rfl, yes_i ⟨_, rfl, rfl, ref_yesF ((alo 4 _ _ hfi rfl).same ua) okT X.mt X.st XT.hw (fun E R hE => ⟨_, rfl, _, rfl, x, _, rfl, mkN Sz hE⟩) cont⟩⟩
        | 5, _, hfi, cont => exact ⟨rfl, yes_i ⟨_, rfl, rfl, ref_yesF ((alo 5 _ _ hfi rfl).same ua) okT X.mt X.st XT.hw (fun E R hE => ⟨_, rfl, _, rfl, x, _, rfl, mkN Sz hE⟩) cont⟩⟩
        | 6, _, hfi, cont => exact ⟨rfl, yes_i ⟨_, rfl, rfl, ref_yesF ((alo 6 _ _ hfi rfl).same ua) okT X.mt X.st XT.hw (fun E R hE => ⟨_, rfl, _, rfl, x, _, rfl, mkN Sz hE⟩) cont⟩⟩
        | 7, _, hfi, cont => exact ⟨rfl, yes_i ⟨_, rfl, rfl, ref_yesF ((alo 7 _ _ hfi rfl).same ua) okT X.mt X.st XT.hw (fun E R hE => ⟨_, rfl, by show 1 ≤ sizeLine; decide, fun q1 n1 => ⟨_, rfl, _, rfl, by show 2 ≤ sizeLine; decide, fun q2 n2 => ⟨_, rfl, x, dx, sb, D, l, ys, fo, bs, q1, q2, l, odd, _, _, [[]], rfl, hgo ((Sz.same (same_upd n1)).same (same_upd n2)), SqL.of (by rw [upd_ne (ne_of_none upd_same n2), upd_same]; rfl), by decide, fun P hP => by rw [List.mem_singleton.mp hP]; exact ⟨pn, room, hroom, fun _ h => by cases h⟩, SqL.of upd_same, ts, oa, ol, no, hE.later (sm_trans (same_upd n1) (same_upd n2))⟩⟩⟩) cont⟩⟩
      rintro aHE ⟨aua, aea⟩
      refine ⟨aDe, _, rfl, SqL.of aea, ?_⟩
      rw [all_rep]
      have aSE := aSA.same aua
      refine ⟨_, rfl, iteF ?_⟩
      exact ⟨_, _, _, _, _, rfl, aSE⟩
    rintro σ Ha ⟨y4, y5, y6, y8, y11, rfl, Sa⟩
    have ba : ∀ e ∈ room ++ [97], e < 128 := fun e he => (List.mem_append.mp he).elim (rasc e) (fun z => by rw [List.mem_singleton.mp z]; decide)
    have bl : (room ++ [97]).length ≤ 100 := by rw [List.length_append, rlt.1]; show _ + 1 ≤ 100; omega
    have ne : ∀ q : List Nat, q.length ≠ l.length → q ∉ rms l bs := fun q h z => h (rms_lets g q z).1
    have bn : room ++ [97] ∉ rms l bs := ne _ (by rw [List.length_append, rlt.1]; show l.length + 1 ≠ l.length; omega)
    have en : ([] : List Nat) ∉ rms l bs := ne _ (by show 0 ≠ _; omega)
    refine ⟨Sa.T, fun zf1 zG1 zx1 zt1 zl1 => ⟨by show 1 ≤ sizeLine; decide, fun zLA znLA => ?_⟩⟩
    have zA1 := Sa.ext zx1 zt1
    have zK1 := Kp.one (Sx := fun G => St7 [(PT_, lamN (.ref c))] d c0 rA (((rms l bs).map tx).map V.str) C x dx sb D l ys fo G) zl1 znLA (zA1.same (same_upd znLA))
    refine ⟨_, rfl, .inl ⟨rfl, _, SqL.of zK1.e⟩, zK1.S.T, fun zf2 zG2 zx2 zt2 zl2 => ⟨zLA, _, _, rfl, rfl, zx2 _ _ zK1.e (fun _ z => by cases z), by show 1 < sizeLine; decide, ?_⟩⟩
    have zK2 := zK1.snoc zx2 zl2 (zA1.put znLA (zK1.S.ext zx2 zt2) (zx2 _ _ zK1.e (fun _ z => by cases z)))
    refine ⟨_, rfl, .inl ⟨rfl, _, SqL.of zK2.e⟩, zK2.S.T, fun zf3 zG3 zx3 zt3 zl3 => ⟨zLA, _, _, rfl, rfl, zx3 _ _ zK2.e (fun _ z => by cases z), by show 2 < sizeLine; decide, ?_⟩⟩
    have zK3 := zK2.snoc zx3 zl3 (zA1.put znLA (zK2.S.ext zx3 zt3) (zx3 _ _ zK2.e (fun _ z => by cases z)))
    have zeA := zK3.e
    have zSA := zK3.S
    have zlo := zK3.lo
    generalize (upd zG3 zLA _) = zGZ at zeA zSA zlo ⊢
    refine ⟨_, rfl, zLA, rfl, ⟨_, SqL.of zeA⟩, fun zDe zne => ?_⟩
    refine lc_it (walk_list (K := K) (a := zLA) (xs := _)) (fun i H' => Same zGZ H' ∧ H' zDe = some (.lst ((List.replicate i true).map V.bl))) ⟨same_upd zne, upd_same⟩ (fun i H' _ h => SqL.of (h.1 _ _ zeA)) ?_ ?_
    · rintro i v Hc Hd hi ⟨ua, ea⟩ ⟨rfl, hv⟩
      have Sz := zSA.same ua
      rw [List.getElem?_map] at hv
      obtain ⟨fi, hfi, rfl⟩ := Option.map_eq_some_iff.mp hv
      have hin : i < 3 := hi
      have cont : ∀ G', Same Hd G' → ∃ acc, G' zDe = some (.lst acc) ∧ acc.length < sizeLine ∧ Same zGZ (upd G' zDe (.lst (acc ++ [.bl true]))) ∧ (upd G' zDe (.lst (acc ++ [.bl true]))) zDe = some (.lst ((List.replicate (i + 1) true).map V.bl)) := fun G' s' => by
        refine ⟨_, s' _ _ ea, ?_, sm_over (sm_trans ua s') zne, ?_⟩
        · rw [List.length_map, List.length_replicate, sizeLine_eq]
          omega
        · rw [upd_same, List.replicate_succ', List.map_append]
          rfl
      match i, hin, hfi, cont with
      | 0, _, hfi, cont => exact ⟨rfl, yes_i ⟨_, rfl, rfl, ref_yesF ((zlo 0 _ _ hfi rfl).same ua) okR X.mr X.sr XR.hw (fun E R hE => ⟨_, rfl, _, rfl, _, rfl, _, _, rfl, rfl, by rw [tx_len, rlt.1, show (Str.ofString "a") = tx [97] by decide +kernel, tx_len, sizeLine_eq]; show _ + 1 ≤ _; omega, x, dx, sb, D, l, ys, fo, bs, l, room ++ [97], congrArg (fun z => [V.ref x, .str (tx l), .str z]) (by rw [show (Str.ofString "a") = tx [97] by decide +kernel, tx_app]), hgo Sz, ts, ba, bl, bn, hE⟩) cont⟩⟩
      | 1, _, hfi, cont => exact ⟨rfl, yes_i ⟨_, rfl, rfl, ref_yesF ((zlo 1 _ _ hfi rfl).same ua) okR X.mr X.sr XR.hw (fun E R hE => ⟨_, rfl, by show 0 ≤ sizeLine; decide, fun q1 n1 => ⟨_, rfl, by show 1 ≤ sizeLine; decide, fun q2 n2 => ⟨_, rfl, x, dx, sb, D, l, ys, fo, bs, q1, q2, room, [], [], [l], congrArg (fun z => [V.ref x, .ref q1, .ref q2, .str (tx room), .str z]) e1, hgo ((Sz.same (same_upd n1)).same (same_upd n2)), SqL.of (by rw [upd_ne (ne_of_none upd_same n2), upd_same]; rfl), by decide, fun P hP => (by cases hP), SqL.of upd_same, by show 1 ≤ 100; decide, fun t ht => by rw [List.mem_singleton.mp ht]; exact ts, rasc, by rw [rlt.1]; omega, fun e he => (by cases he), by decide, .inr en, hE.later (sm_trans (same_upd n1) (same_upd n2))⟩⟩⟩) cont⟩⟩
      | 2, _, hfi, cont => exact ⟨rfl, yes_i ⟨_, rfl, rfl, ref_yesF ((zlo 2 _ _ hfi rfl).same ua) okR X.mr X.sr XR.hw (fun E R hE => ⟨_, rfl, by show 0 ≤ sizeLine; decide, fun q1 n1 => ⟨by show 0 ≤ sizeLine; decide, fun q2 n2 => ⟨_, rfl, x, dx, sb, D, l, ys, fo, bs, q1, q2, [], room, [], [], congrArg (fun z => [V.ref x, .ref q1, .ref q2, .str z, .str (tx room)]) e1, hgo ((Sz.same (same_upd n1)).same (same_upd n2)), SqL.of (by rw [upd_ne (ne_of_none upd_same n2), upd_same]; rfl), by decide, fun P hP => (by cases hP), SqL.of upd_same, by decide, fun t ht => (by cases ht), fun e he => (by cases he), by decide, rasc, by rw [rlt.1]; omega, .inl en, hE.later (sm_trans (same_upd n1) (same_upd n2))⟩⟩⟩) cont⟩⟩
    rintro zHE ⟨zua, zea⟩
    refine ⟨zDe, _, rfl, SqL.of zea, ?_⟩
    rw [all_rep]
    have zSE := zSA.same zua
    exact q _
end
end NC
namespace NC
open PySem PySem.Spec PyProof.Rows L2
theorem exm_of {K : PySem.W.Frag} {R S : Addr} {b : Bool} (h1 : PySem.W.subIn K (.ref S) (.type "BaseException") = some true) (h2 : PySem.W.isClsIn K S = true) (h3 : PySem.W.typeIn K (.ref S) = some (.type "type")) (h4 : PySem.W.subIn K (.ref R) (.ref S) = some b) :
    PySem.W.exmOne K (.ref R) (.ref S) = some b := by
  have e1 : (PySem.W.subIn K (.ref S) (.type "BaseException") == some true) = true := by rw [h1] <;> rfl
  have e2 : ((PySem.W.clsIn K S).isSome && PySem.W.typeIn K (.ref S) == some (.type "type")) = true := by
    have h2' : (PySem.W.clsIn K S).isSome = true := h2
    rw [h2', h3] <;> rfl
  show (if (PySem.W.subIn K (.ref S) (.type "BaseException") == some true) = true then (if ((PySem.W.clsIn K S).isSome && PySem.W.typeIn K (.ref S) == some (.type "type")) = true then PySem.W.subIn K (.ref R) (.ref S) else none) else none) = some b
  rw [if_pos e1, if_pos e2]
  exact h4
theorem exmAny_of {K : PySem.W.Frag} {cls c : Value} {r : List Value} {a b : Bool} (h1 : PySem.W.exmOne K cls c = some a) (h2 : PySem.W.exmAny K cls r = some b) : PySem.W.exmAny K cls (c :: r) = some (a || b) := by
  unfold PySem.W.exmAny
  rw [h1, h2]
abbrev sTabI : Stmt := inClass (topS 66) 0
set_option maxHeartbeats 4000000 in
theorem all_mk {l : PySem.W.OpenLaw} {w : World} {K : PySem.W.Frag} {h : Heap} {mg : Str → Option Value} {fa : Addr} {PT : Addr} (X : K.In h) (G : h.Ns mainGlobals mg) (hfa : mg "law" = some (.ref fa)) (hPT : h.get? PT = some { cls := .none, data := .fields #[] }) (nPT : K.lookup PT = none)
    {f_O : Addr} {oc_O kV_O dc_O pm_O cd_O ct_O : Value} {od_O an_O : Option Addr} {sl_O : Array (Option Value)}
    {f_S : Addr} {oc_S kV_S dc_S pm_S cd_S ct_S : Value} {od_S an_S : Option Addr} {sl_S : Array (Option Value)}
    {f_Y : Addr} {oc_Y kV_Y dc_Y pm_Y cd_Y ct_Y : Value} {od_Y an_Y : Option Addr} {sl_Y : Array (Option Value)}
    {f_W : Addr} {oc_W kV_W dc_W pm_W cd_W ct_W : Value} {od_W an_W : Option Addr} {sl_W : Array (Option Value)}
    {f_I : Addr} {oc_I kV_I dc_I pm_I cd_I ct_I : Value} {od_I an_I : Option Addr} {sl_I : Array (Option Value)}
    {f_cw : Addr} {oc_cw kV_cw dc_cw pm_cw cd_cw ct_cw : Value} {od_cw an_cw : Option Addr} {sl_cw : Array (Option Value)}
    {f_cb : Addr} {oc_cb kV_cb dc_cb pm_cb cd_cb ct_cb : Value} {od_cb an_cb : Option Addr} {sl_cb : Array (Option Value)}
    {f_cs : Addr} {oc_cs kV_cs dc_cs pm_cs cd_cs ct_cs : Value} {od_cs an_cs : Option Addr} {sl_cs : Array (Option Value)}
    {f_st : Addr} {oc_st kV_st dc_st pm_st cd_st ct_st : Value} {od_st an_st : Option Addr} {sl_st : Array (Option Value)}
    {f_re : Addr} {oc_re kV_re dc_re pm_re cd_re ct_re : Value} {od_re an_re : Option Addr} {sl_re : Array (Option Value)}
    {f_af : Addr} {oc_af kV_af dc_af pm_af cd_af ct_af : Value} {od_af an_af : Option Addr} {sl_af : Array (Option Value)}
    {f_cf : Addr} {oc_cf kV_cf dc_cf pm_cf cd_cf ct_cf : Value} {od_cf an_cf : Option Addr} {sl_cf : Array (Option Value)}
    {f_ca : Addr} {oc_ca kV_ca dc_ca pm_ca cd_ca ct_ca : Value} {od_ca an_ca : Option Addr} {sl_ca : Array (Option Value)}
    {f_start : Addr} {oc_start kV_start dc_start pm_start cd_start ct_start : Value} {od_start an_start : Option Addr} {sl_start : Array (Option Value)}
    {f_draw : Addr} {oc_draw kV_draw dc_draw pm_draw cd_draw ct_draw : Value} {od_draw an_draw : Option Addr} {sl_draw : Array (Option Value)}
    {f_of : Addr} {oc_of kV_of dc_of pm_of cd_of ct_of : Value} {od_of an_of : Option Addr} {sl_of : Array (Option Value)}
    {f_mixed : Addr} {oc_mixed kV_mixed dc_mixed pm_mixed cd_mixed ct_mixed : Value} {od_mixed an_mixed : Option Addr} {sl_mixed : Array (Option Value)}
    {f_letters : Addr} {oc_letters kV_letters dc_letters pm_letters cd_letters ct_letters : Value} {od_letters an_letters : Option Addr} {sl_letters : Array (Option Value)}
    {f_shuts : Addr} {oc_shuts kV_shuts dc_shuts pm_shuts cd_shuts ct_shuts : Value} {od_shuts an_shuts : Option Addr} {sl_shuts : Array (Option Value)}
    {f_oth : Addr} {oc_oth kV_oth dc_oth pm_oth cd_oth ct_oth : Value} {od_oth an_oth : Option Addr} {sl_oth : Array (Option Value)}
    {f_wit : Addr} {oc_wit kV_wit dc_wit pm_wit cd_wit ct_wit : Value} {od_wit an_wit : Option Addr} {sl_wit : Array (Option Value)}
    {f_pairs : Addr} {oc_pairs kV_pairs dc_pairs pm_pairs cd_pairs ct_pairs : Value} {od_pairs an_pairs : Option Addr} {sl_pairs : Array (Option Value)}
    {f_all : Addr} {oc_all kV_all dc_all pm_all cd_all ct_all : Value} {od_all an_all : Option Addr} {sl_all : Array (Option Value)}
    {f_rms : Addr} {oc_rms kV_rms dc_rms pm_rms cd_rms ct_rms : Value} {od_rms an_rms : Option Addr} {sl_rms : Array (Option Value)}
    {f_fine : Addr} {oc_fine kV_fine dc_fine pm_fine cd_fine ct_fine : Value} {od_fine an_fine : Option Addr} {sl_fine : Array (Option Value)}
    {f_hall : Addr} {oc_hall kV_hall dc_hall pm_hall cd_hall ct_hall : Value} {od_hall an_hall : Option Addr} {sl_hall : Array (Option Value)}
    {f_img : Addr} {oc_img kV_img dc_img pm_img cd_img ct_img : Value} {od_img an_img : Option Addr} {sl_img : Array (Option Value)}
    {f_bys : Addr} {oc_bys kV_bys dc_bys pm_bys cd_bys ct_bys : Value} {od_bys an_bys : Option Addr} {sl_bys : Array (Option Value)}
    {f_smt : Addr} {oc_smt kV_smt dc_smt pm_smt cd_smt ct_smt : Value} {od_smt an_smt : Option Addr} {sl_smt : Array (Option Value)}
    {f_word : Addr} {oc_word kV_word dc_word pm_word cd_word ct_word : Value} {od_word an_word : Option Addr} {sl_word : Array (Option Value)}
    {f_ref : Addr} {oc_ref kV_ref dc_ref pm_ref cd_ref ct_ref : Value} {od_ref an_ref : Option Addr} {sl_ref : Array (Option Value)}
    {f_ist : Addr} {oc_ist kV_ist dc_ist pm_ist cd_ist ct_ist : Value} {od_ist an_ist : Option Addr} {sl_ist : Array (Option Value)}
    {f_chk : Addr} {oc_chk kV_chk dc_chk pm_chk cd_chk ct_chk : Value} {od_chk an_chk : Option Addr} {sl_chk : Array (Option Value)}
    {f_sh : Addr} {oc_sh kV_sh dc_sh pm_sh cd_sh ct_sh : Value} {od_sh an_sh : Option Addr} {sl_sh : Array (Option Value)}
    {f_sc : Addr} {oc_sc kV_sc dc_sc pm_sc cd_sc ct_sc : Value} {od_sc an_sc : Option Addr} {sl_sc : Array (Option Value)}
    {f_tu : Addr} {oc_tu kV_tu dc_tu pm_tu cd_tu ct_tu : Value} {od_tu an_tu : Option Addr} {sl_tu : Array (Option Value)}
    {f_ov : Addr} {oc_ov kV_ov dc_ov pm_ov cd_ov ct_ov : Value} {od_ov an_ov : Option Addr} {sl_ov : Array (Option Value)}
    {f_bh : Addr} {oc_bh kV_bh dc_bh pm_bh cd_bh ct_bh : Value} {od_bh an_bh : Option Addr} {sl_bh : Array (Option Value)}
    {f_bk : Addr} {oc_bk kV_bk dc_bk pm_bk cd_bk ct_bk : Value} {od_bk an_bk : Option Addr} {sl_bk : Array (Option Value)}
    {f_ro : Addr} {oc_ro kV_ro dc_ro pm_ro cd_ro ct_ro : Value} {od_ro an_ro : Option Addr} {sl_ro : Array (Option Value)}
    {f_ot : Addr} {oc_ot kV_ot dc_ot pm_ot cd_ot ct_ot : Value} {od_ot an_ot : Option Addr} {sl_ot : Array (Option Value)}
    {f_stt : Addr} {oc_stt kV_stt dc_stt pm_stt cd_stt ct_stt : Value} {od_stt an_stt : Option Addr} {sl_stt : Array (Option Value)}
    {f_isP : Addr} {oc_isP kV_isP dc_isP pm_isP cd_isP ct_isP : Value} {od_isP an_isP : Option Addr} {sl_isP : Array (Option Value)}
    {f_chP : Addr} {oc_chP kV_chP dc_chP pm_chP cd_chP ct_chP : Value} {od_chP an_chP : Option Addr} {sl_chP : Array (Option Value)}
    {f_afb : Addr} {oc_afb kV_afb dc_afb pm_afb cd_afb ct_afb : Value} {od_afb an_afb : Option Addr} {sl_afb : Array (Option Value)}
    {f_to : Addr} {oc_to kV_to dc_to pm_to cd_to ct_to : Value} {od_to an_to : Option Addr} {sl_to : Array (Option Value)}
    {f_go : Addr} {oc_go kV_go dc_go pm_go cd_go ct_go : Value} {od_go an_go : Option Addr} {sl_go : Array (Option Value)}
    {f_so : Addr} {oc_so kV_so dc_so pm_so cd_so ct_so : Value} {od_so an_so : Option Addr} {sl_so : Array (Option Value)}
    {f_ke : Addr} {oc_ke kV_ke dc_ke pm_ke cd_ke ct_ke : Value} {od_ke an_ke : Option Addr} {sl_ke : Array (Option Value)}
    {f_itn : Addr} {oc_itn kV_itn dc_itn pm_itn cd_itn ct_itn : Value} {od_itn an_itn : Option Addr} {sl_itn : Array (Option Value)}
    {f_ct : Addr} {oc_ct kV_ct dc_ct pm_ct cd_ct ct_ct : Value} {od_ct an_ct : Option Addr} {sl_ct : Array (Option Value)}
    {CH : Addr}
    {CB : Addr}
    {CF : Addr}
    {CA : Addr}
    {CT : Addr}
    {CR : Addr}
    {CM : Addr}
    {CN : Addr}
    {nm_CB q_CB : Str} {N_CB : Addr} {bs_CB bm_CB sub_CB : List Value} {sn_CB : List Str} {ab_CB : Bool} {col_CB : Option Bool} {dd_CB : Option Addr} {m0_CB m1_CB m2_CB m3_CB m5_CB : Option Value}
    {nm_CF q_CF : Str} {N_CF : Addr} {bs_CF bm_CF sub_CF : List Value} {sn_CF : List Str} {ab_CF : Bool} {col_CF : Option Bool} {dd_CF : Option Addr} {m0_CF m1_CF m2_CF m3_CF m5_CF : Option Value}
    {nm_CA q_CA : Str} {N_CA : Addr} {bs_CA bm_CA sub_CA : List Value} {sn_CA : List Str} {ab_CA : Bool} {col_CA : Option Bool} {dd_CA : Option Addr} {m0_CA m1_CA m2_CA m3_CA m5_CA : Option Value}
    {nm_CT q_CT : Str} {N_CT : Addr} {bs_CT bm_CT sub_CT : List Value} {sn_CT : List Str} {ab_CT : Bool} {col_CT : Option Bool} {dd_CT : Option Addr} {m0_CT m1_CT m2_CT m3_CT m5_CT : Option Value}
    {nm_CR q_CR : Str} {N_CR : Addr} {bs_CR bm_CR sub_CR : List Value} {sn_CR : List Str} {ab_CR : Bool} {col_CR : Option Bool} {dd_CR : Option Addr} {m0_CR m1_CR m2_CR m3_CR m5_CR : Option Value}
    {f_iH : Addr} {oc_iH kV_iH dc_iH pm_iH cd_iH ct_iH : Value} {od_iH an_iH : Option Addr} {sl_iH : Array (Option Value)}
    {f_iB : Addr} {oc_iB kV_iB dc_iB pm_iB cd_iB ct_iB : Value} {od_iB an_iB : Option Addr} {sl_iB : Array (Option Value)}
    {f_iF : Addr} {oc_iF kV_iF dc_iF pm_iF cd_iF ct_iF : Value} {od_iF an_iF : Option Addr} {sl_iF : Array (Option Value)}
    {f_iA : Addr} {oc_iA kV_iA dc_iA pm_iA cd_iA ct_iA : Value} {od_iA an_iA : Option Addr} {sl_iA : Array (Option Value)}
    {f_iT : Addr} {oc_iT kV_iT dc_iT pm_iT cd_iT ct_iT : Value} {od_iT an_iT : Option Addr} {sl_iT : Array (Option Value)}
    {f_iR : Addr} {oc_iR kV_iR dc_iR pm_iR cd_iR ct_iR : Value} {od_iR an_iR : Option Addr} {sl_iR : Array (Option Value)}
    {T_hi e_hi : Addr} {oc_T : Value} {od_T : Option Addr} {n_T : Nat} {sl_T : Array (Option Value)}
    {C : Addr}
    {f_hb : Addr} {oc_hb kV_hb dc_hb pm_hb cd_hb ct_hb : Value} {od_hb an_hb : Option Addr} {sl_hb : Array (Option Value)}
    {f_hm : Addr} {oc_hm kV_hm dc_hm pm_hm cd_hm ct_hm : Value} {od_hm an_hm : Option Addr} {sl_hm : Array (Option Value)}
    {f_hr : Addr} {oc_hr kV_hr dc_hr pm_hr cd_hr ct_hr : Value} {od_hr an_hr : Option Addr} {sl_hr : Array (Option Value)}
    {f_hg : Addr} {oc_hg kV_hg dc_hg pm_hg cd_hg ct_hg : Value} {od_hg an_hg : Option Addr} {sl_hg : Array (Option Value)}
    {f_hwl : Addr} {oc_hwl kV_hwl dc_hwl pm_hwl cd_hwl ct_hwl : Value} {od_hwl an_hwl : Option Addr} {sl_hwl : Array (Option Value)}
    {f_hfo : Addr} {oc_hfo kV_hfo dc_hfo pm_hfo cd_hfo ct_hfo : Value} {od_hfo an_hfo : Option Addr} {sl_hfo : Array (Option Value)}
    {f_hi : Addr} {oc_hi kV_hi dc_hi pm_hi cd_hi ct_hi : Value} {od_hi an_hi : Option Addr} {sl_hi : Array (Option Value)}
    {CTb : Addr}
    {f_tbI : Addr} {oc_tbI kV_tbI dc_tbI pm_tbI cd_tbI ct_tbI : Value} {od_tbI an_tbI : Option Addr} {sl_tbI : Array (Option Value)}
    {tw : Tok}
    {tc : Tok}
    {c : Addr} {fL : Addr} {ocL kVL dcL pmL ctL : Value} {odL anL : Option Addr} {slL : Array (Option Value)}
    (a_O : PySem.W.nsIn K mainGlobals "other" = some (some (.ref f_O)))
    (l_O : K.lookup f_O = some ⟨oc_O, od_O, .func (PySem.W.fnOf "other" "other" (defArgs sOther) (defBody sOther) (defScope sOther) .none kV_O dc_O pm_O an_O cd_O ct_O), sl_O⟩)
    (c_O : PySem.W.codeIn K cd_O "other" = true)
    (k_O : PySem.W.keepIn K (.ref f_O) = true)
    (a_S : PySem.W.nsIn K mainGlobals "sides_of" = some (some (.ref f_S)))
    (l_S : K.lookup f_S = some ⟨oc_S, od_S, .func (PySem.W.fnOf "sides_of" "sides_of" (defArgs sSides) (defBody sSides) (defScope sSides) .none kV_S dc_S pm_S an_S cd_S ct_S), sl_S⟩)
    (c_S : PySem.W.codeIn K cd_S "sides_of" = true)
    (k_S : PySem.W.keepIn K (.ref f_S) = true)
    (a_Y : PySem.W.nsIn K mainGlobals "by_walls" = some (some (.ref f_Y)))
    (l_Y : K.lookup f_Y = some ⟨oc_Y, od_Y, .func (PySem.W.fnOf "by_walls" "by_walls" (defArgs sByWalls) (defBody sByWalls) (defScope sByWalls) .none kV_Y dc_Y pm_Y an_Y cd_Y ct_Y), sl_Y⟩)
    (c_Y : PySem.W.codeIn K cd_Y "by_walls" = true)
    (k_Y : PySem.W.keepIn K (.ref f_Y) = true)
    (a_W : PySem.W.nsIn K mainGlobals "is_walls" = some (some (.ref f_W)))
    (l_W : K.lookup f_W = some ⟨oc_W, od_W, .func (PySem.W.fnOf "is_walls" "is_walls" (defArgs sIsWalls) (defBody sIsWalls) (defScope sIsWalls) .none kV_W dc_W pm_W an_W cd_W ct_W), sl_W⟩)
    (c_W : PySem.W.codeIn K cd_W "is_walls" = true)
    (k_W : PySem.W.keepIn K (.ref f_W) = true)
    (a_I : PySem.W.nsIn K mainGlobals "is_bar" = some (some (.ref f_I)))
    (l_I : K.lookup f_I = some ⟨oc_I, od_I, .func (PySem.W.fnOf "is_bar" "is_bar" (defArgs sIsBar) (defBody sIsBar) (defScope sIsBar) .none kV_I dc_I pm_I an_I cd_I ct_I), sl_I⟩)
    (c_I : PySem.W.codeIn K cd_I "is_bar" = true)
    (k_I : PySem.W.keepIn K (.ref f_I) = true)
    (a_cw : PySem.W.nsIn K mainGlobals "check_walls" = some (some (.ref f_cw)))
    (l_cw : K.lookup f_cw = some ⟨oc_cw, od_cw, .func (PySem.W.fnOf "check_walls" "check_walls" (defArgs sChkWalls) (defBody sChkWalls) (defScope sChkWalls) .none kV_cw dc_cw pm_cw an_cw cd_cw ct_cw), sl_cw⟩)
    (c_cw : PySem.W.codeIn K cd_cw "check_walls" = true)
    (k_cw : PySem.W.keepIn K (.ref f_cw) = true)
    (a_cb : PySem.W.nsIn K mainGlobals "check_bars" = some (some (.ref f_cb)))
    (l_cb : K.lookup f_cb = some ⟨oc_cb, od_cb, .func (PySem.W.fnOf "check_bars" "check_bars" (defArgs sChkBars) (defBody sChkBars) (defScope sChkBars) .none kV_cb dc_cb pm_cb an_cb cd_cb ct_cb), sl_cb⟩)
    (c_cb : PySem.W.codeIn K cd_cb "check_bars" = true)
    (k_cb : PySem.W.keepIn K (.ref f_cb) = true)
    (a_cs : PySem.W.nsIn K mainGlobals "check_side" = some (some (.ref f_cs)))
    (l_cs : K.lookup f_cs = some ⟨oc_cs, od_cs, .func (PySem.W.fnOf "check_side" "check_side" (defArgs sChkSide) (defBody sChkSide) (defScope sChkSide) .none kV_cs dc_cs pm_cs an_cs cd_cs ct_cs), sl_cs⟩)
    (c_cs : PySem.W.codeIn K cd_cs "check_side" = true)
    (k_cs : PySem.W.keepIn K (.ref f_cs) = true)
    (a_st : PySem.W.nsIn K mainGlobals "straight_from" = some (some (.ref f_st)))
    (l_st : K.lookup f_st = some ⟨oc_st, od_st, .func (PySem.W.fnOf "straight_from" "straight_from" (defArgs sStraight) (defBody sStraight) (defScope sStraight) .none kV_st dc_st pm_st an_st cd_st ct_st), sl_st⟩)
    (c_st : PySem.W.codeIn K cd_st "straight_from" = true)
    (k_st : PySem.W.keepIn K (.ref f_st) = true)
    (a_re : PySem.W.nsIn K mainGlobals "reached" = some (some (.ref f_re)))
    (l_re : K.lookup f_re = some ⟨oc_re, od_re, .func (PySem.W.fnOf "reached" "reached" (defArgs sReached) (defBody sReached) (defScope sReached) .none kV_re dc_re pm_re an_re cd_re ct_re), sl_re⟩)
    (c_re : PySem.W.codeIn K cd_re "reached" = true)
    (k_re : PySem.W.keepIn K (.ref f_re) = true)
    (a_af : PySem.W.nsIn K mainGlobals "all_forced" = some (some (.ref f_af)))
    (l_af : K.lookup f_af = some ⟨oc_af, od_af, .func (PySem.W.fnOf "all_forced" "all_forced" (defArgs sAllF) (defBody sAllF) (defScope sAllF) .none kV_af dc_af pm_af an_af cd_af ct_af), sl_af⟩)
    (c_af : PySem.W.codeIn K cd_af "all_forced" = true)
    (k_af : PySem.W.keepIn K (.ref f_af) = true)
    (a_cf : PySem.W.nsIn K mainGlobals "check_fixed" = some (some (.ref f_cf)))
    (l_cf : K.lookup f_cf = some ⟨oc_cf, od_cf, .func (PySem.W.fnOf "check_fixed" "check_fixed" (defArgs sChkFix) (defBody sChkFix) (defScope sChkFix) .none kV_cf dc_cf pm_cf an_cf cd_cf ct_cf), sl_cf⟩)
    (c_cf : PySem.W.codeIn K cd_cf "check_fixed" = true)
    (k_cf : PySem.W.keepIn K (.ref f_cf) = true)
    (a_ca : PySem.W.nsIn K mainGlobals "check_alike" = some (some (.ref f_ca)))
    (l_ca : K.lookup f_ca = some ⟨oc_ca, od_ca, .func (PySem.W.fnOf "check_alike" "check_alike" (defArgs sChkAl) (defBody sChkAl) (defScope sChkAl) .none kV_ca dc_ca pm_ca an_ca cd_ca ct_ca), sl_ca⟩)
    (c_ca : PySem.W.codeIn K cd_ca "check_alike" = true)
    (k_ca : PySem.W.keepIn K (.ref f_ca) = true)
    (a_start : PySem.W.nsIn K mainGlobals "_law_start" = some (some (.ref f_start)))
    (l_start : K.lookup f_start = some ⟨oc_start, od_start, .func (PySem.W.fnOf "_law_start" "_law_start" (defArgs sStart) (defBody sStart) (defScope sStart) .none kV_start dc_start pm_start an_start cd_start ct_start), sl_start⟩)
    (c_start : PySem.W.codeIn K cd_start "_law_start" = true)
    (k_start : PySem.W.keepIn K (.ref f_start) = true)
    (a_draw : PySem.W.nsIn K mainGlobals "_law_draw" = some (some (.ref f_draw)))
    (l_draw : K.lookup f_draw = some ⟨oc_draw, od_draw, .func (PySem.W.fnOf "_law_draw" "_law_draw" (defArgs sDraw) (defBody sDraw) (defScope sDraw) .none kV_draw dc_draw pm_draw an_draw cd_draw ct_draw), sl_draw⟩)
    (c_draw : PySem.W.codeIn K cd_draw "_law_draw" = true)
    (k_draw : PySem.W.keepIn K (.ref f_draw) = true)
    (a_of : PySem.W.nsIn K mainGlobals "_law_of" = some (some (.ref f_of)))
    (l_of : K.lookup f_of = some ⟨oc_of, od_of, .func (PySem.W.fnOf "_law_of" "_law_of" (defArgs sOf) (defBody sOf) (defScope sOf) .none kV_of dc_of pm_of an_of cd_of ct_of), sl_of⟩)
    (c_of : PySem.W.codeIn K cd_of "_law_of" = true)
    (k_of : PySem.W.keepIn K (.ref f_of) = true)
    (a_mixed : PySem.W.nsIn K mainGlobals "_law_mixed" = some (some (.ref f_mixed)))
    (l_mixed : K.lookup f_mixed = some ⟨oc_mixed, od_mixed, .func (PySem.W.fnOf "_law_mixed" "_law_mixed" (defArgs sLMix) (defBody sLMix) (defScope sLMix) .none kV_mixed dc_mixed pm_mixed an_mixed cd_mixed ct_mixed), sl_mixed⟩)
    (c_mixed : PySem.W.codeIn K cd_mixed "_law_mixed" = true)
    (k_mixed : PySem.W.keepIn K (.ref f_mixed) = true)
    (a_letters : PySem.W.nsIn K mainGlobals "_law_letters" = some (some (.ref f_letters)))
    (l_letters : K.lookup f_letters = some ⟨oc_letters, od_letters, .func (PySem.W.fnOf "_law_letters" "_law_letters" (defArgs sLetters) (defBody sLetters) (defScope sLetters) .none kV_letters dc_letters pm_letters an_letters cd_letters ct_letters), sl_letters⟩)
    (c_letters : PySem.W.codeIn K cd_letters "_law_letters" = true)
    (k_letters : PySem.W.keepIn K (.ref f_letters) = true)
    (a_shuts : PySem.W.nsIn K mainGlobals "_law_shuts" = some (some (.ref f_shuts)))
    (l_shuts : K.lookup f_shuts = some ⟨oc_shuts, od_shuts, .func (PySem.W.fnOf "_law_shuts" "_law_shuts" (defArgs sShuts) (defBody sShuts) (defScope sShuts) .none kV_shuts dc_shuts pm_shuts an_shuts cd_shuts ct_shuts), sl_shuts⟩)
    (c_shuts : PySem.W.codeIn K cd_shuts "_law_shuts" = true)
    (k_shuts : PySem.W.keepIn K (.ref f_shuts) = true)
    (a_oth : PySem.W.nsIn K mainGlobals "_law_other" = some (some (.ref f_oth)))
    (l_oth : K.lookup f_oth = some ⟨oc_oth, od_oth, .func (PySem.W.fnOf "_law_other" "_law_other" (defArgs sOth) (defBody sOth) (defScope sOth) .none kV_oth dc_oth pm_oth an_oth cd_oth ct_oth), sl_oth⟩)
    (c_oth : PySem.W.codeIn K cd_oth "_law_other" = true)
    (k_oth : PySem.W.keepIn K (.ref f_oth) = true)
    (a_wit : PySem.W.nsIn K mainGlobals "_law_within" = some (some (.ref f_wit)))
    (l_wit : K.lookup f_wit = some ⟨oc_wit, od_wit, .func (PySem.W.fnOf "_law_within" "_law_within" (defArgs sWithin) (defBody sWithin) (defScope sWithin) .none kV_wit dc_wit pm_wit an_wit cd_wit ct_wit), sl_wit⟩)
    (c_wit : PySem.W.codeIn K cd_wit "_law_within" = true)
    (k_wit : PySem.W.keepIn K (.ref f_wit) = true)
    (a_pairs : PySem.W.nsIn K mainGlobals "_law_pairs" = some (some (.ref f_pairs)))
    (l_pairs : K.lookup f_pairs = some ⟨oc_pairs, od_pairs, .func (PySem.W.fnOf "_law_pairs" "_law_pairs" (defArgs sPairs) (defBody sPairs) (defScope sPairs) .none kV_pairs dc_pairs pm_pairs an_pairs cd_pairs ct_pairs), sl_pairs⟩)
    (c_pairs : PySem.W.codeIn K cd_pairs "_law_pairs" = true)
    (k_pairs : PySem.W.keepIn K (.ref f_pairs) = true)
    (a_all : PySem.W.nsIn K mainGlobals "_law_all" = some (some (.ref f_all)))
    (l_all : K.lookup f_all = some ⟨oc_all, od_all, .func (PySem.W.fnOf "_law_all" "_law_all" (defArgs sAll) (defBody sAll) (defScope sAll) .none kV_all dc_all pm_all an_all cd_all ct_all), sl_all⟩)
    (c_all : PySem.W.codeIn K cd_all "_law_all" = true)
    (k_all : PySem.W.keepIn K (.ref f_all) = true)
    (a_rms : PySem.W.nsIn K mainGlobals "_law_rooms" = some (some (.ref f_rms)))
    (l_rms : K.lookup f_rms = some ⟨oc_rms, od_rms, .func (PySem.W.fnOf "_law_rooms" "_law_rooms" (defArgs sRooms) (defBody sRooms) (defScope sRooms) .none kV_rms dc_rms pm_rms an_rms cd_rms ct_rms), sl_rms⟩)
    (c_rms : PySem.W.codeIn K cd_rms "_law_rooms" = true)
    (k_rms : PySem.W.keepIn K (.ref f_rms) = true)
    (a_fine : PySem.W.nsIn K mainGlobals "_law_fine" = some (some (.ref f_fine)))
    (l_fine : K.lookup f_fine = some ⟨oc_fine, od_fine, .func (PySem.W.fnOf "_law_fine" "_law_fine" (defArgs sFine) (defBody sFine) (defScope sFine) .none kV_fine dc_fine pm_fine an_fine cd_fine ct_fine), sl_fine⟩)
    (c_fine : PySem.W.codeIn K cd_fine "_law_fine" = true)
    (k_fine : PySem.W.keepIn K (.ref f_fine) = true)
    (a_hall : PySem.W.nsIn K mainGlobals "_law_hall" = some (some (.ref f_hall)))
    (l_hall : K.lookup f_hall = some ⟨oc_hall, od_hall, .func (PySem.W.fnOf "_law_hall" "_law_hall" (defArgs sHall) (defBody sHall) (defScope sHall) .none kV_hall dc_hall pm_hall an_hall cd_hall ct_hall), sl_hall⟩)
    (c_hall : PySem.W.codeIn K cd_hall "_law_hall" = true)
    (k_hall : PySem.W.keepIn K (.ref f_hall) = true)
    (a_img : PySem.W.nsIn K mainGlobals "_law_image" = some (some (.ref f_img)))
    (l_img : K.lookup f_img = some ⟨oc_img, od_img, .func (PySem.W.fnOf "_law_image" "_law_image" (defArgs sLImg) (defBody sLImg) (defScope sLImg) .none kV_img dc_img pm_img an_img cd_img ct_img), sl_img⟩)
    (c_img : PySem.W.codeIn K cd_img "_law_image" = true)
    (k_img : PySem.W.keepIn K (.ref f_img) = true)
    (a_bys : PySem.W.nsIn K mainGlobals "_law_by_shuts" = some (some (.ref f_bys)))
    (l_bys : K.lookup f_bys = some ⟨oc_bys, od_bys, .func (PySem.W.fnOf "_law_by_shuts" "_law_by_shuts" (defArgs sLByS) (defBody sLByS) (defScope sLByS) .none kV_bys dc_bys pm_bys an_bys cd_bys ct_bys), sl_bys⟩)
    (c_bys : PySem.W.codeIn K cd_bys "_law_by_shuts" = true)
    (k_bys : PySem.W.keepIn K (.ref f_bys) = true)
    (a_smt : PySem.W.nsIn K mainGlobals "_law_some_turn" = some (some (.ref f_smt)))
    (l_smt : K.lookup f_smt = some ⟨oc_smt, od_smt, .func (PySem.W.fnOf "_law_some_turn" "_law_some_turn" (defArgs sLSome) (defBody sLSome) (defScope sLSome) .none kV_smt dc_smt pm_smt an_smt cd_smt ct_smt), sl_smt⟩)
    (c_smt : PySem.W.codeIn K cd_smt "_law_some_turn" = true)
    (k_smt : PySem.W.keepIn K (.ref f_smt) = true)
    (a_word : PySem.W.nsIn K mainGlobals "_law_word" = some (some (.ref f_word)))
    (l_word : K.lookup f_word = some ⟨oc_word, od_word, .func (PySem.W.fnOf "_law_word" "_law_word" (defArgs sWord) (defBody sWord) (defScope sWord) .none kV_word dc_word pm_word an_word cd_word ct_word), sl_word⟩)
    (c_word : PySem.W.codeIn K cd_word "_law_word" = true)
    (k_word : PySem.W.keepIn K (.ref f_word) = true)
    (a_ref : PySem.W.nsIn K mainGlobals "_law_refused" = some (some (.ref f_ref)))
    (l_ref : K.lookup f_ref = some ⟨oc_ref, od_ref, .func (PySem.W.fnOf "_law_refused" "_law_refused" (defArgs sRef) (defBody sRef) (defScope sRef) .none kV_ref dc_ref pm_ref an_ref cd_ref ct_ref), sl_ref⟩)
    (c_ref : PySem.W.codeIn K cd_ref "_law_refused" = true)
    (k_ref : PySem.W.keepIn K (.ref f_ref) = true)
    (a_ist : PySem.W.nsIn K mainGlobals "_law_is_turn" = some (some (.ref f_ist)))
    (l_ist : K.lookup f_ist = some ⟨oc_ist, od_ist, .func (PySem.W.fnOf "_law_is_turn" "_law_is_turn" (defArgs sLIsT) (defBody sLIsT) (defScope sLIsT) .none kV_ist dc_ist pm_ist an_ist cd_ist ct_ist), sl_ist⟩)
    (c_ist : PySem.W.codeIn K cd_ist "_law_is_turn" = true)
    (k_ist : PySem.W.keepIn K (.ref f_ist) = true)
    (a_chk : PySem.W.nsIn K mainGlobals "check_room" = some (some (.ref f_chk)))
    (l_chk : K.lookup f_chk = some ⟨oc_chk, od_chk, .func (PySem.W.fnOf "check_room" "check_room" (defArgs sChkRoom) (defBody sChkRoom) (defScope sChkRoom) .none kV_chk dc_chk pm_chk an_chk cd_chk ct_chk), sl_chk⟩)
    (c_chk : PySem.W.codeIn K cd_chk "check_room" = true)
    (k_chk : PySem.W.keepIn K (.ref f_chk) = true)
    (a_sh : PySem.W.nsIn K mainGlobals "shut" = some (some (.ref f_sh)))
    (l_sh : K.lookup f_sh = some ⟨oc_sh, od_sh, .func (PySem.W.fnOf "shut" "shut" (defArgs sShut) (defBody sShut) (defScope sShut) .none kV_sh dc_sh pm_sh an_sh cd_sh ct_sh), sl_sh⟩)
    (c_sh : PySem.W.codeIn K cd_sh "shut" = true)
    (k_sh : PySem.W.keepIn K (.ref f_sh) = true)
    (a_sc : PySem.W.nsIn K mainGlobals "shut_calls" = some (some (.ref f_sc)))
    (l_sc : K.lookup f_sc = some ⟨oc_sc, od_sc, .func (PySem.W.fnOf "shut_calls" "shut_calls" (defArgs sShCalls) (defBody sShCalls) (defScope sShCalls) .none kV_sc dc_sc pm_sc an_sc cd_sc ct_sc), sl_sc⟩)
    (c_sc : PySem.W.codeIn K cd_sc "shut_calls" = true)
    (k_sc : PySem.W.keepIn K (.ref f_sc) = true)
    (a_tu : PySem.W.nsIn K mainGlobals "turned" = some (some (.ref f_tu)))
    (l_tu : K.lookup f_tu = some ⟨oc_tu, od_tu, .func (PySem.W.fnOf "turned" "turned" (defArgs sTurned) (defBody sTurned) (defScope sTurned) .none kV_tu dc_tu pm_tu an_tu cd_tu ct_tu), sl_tu⟩)
    (c_tu : PySem.W.codeIn K cd_tu "turned" = true)
    (k_tu : PySem.W.keepIn K (.ref f_tu) = true)
    (a_ov : PySem.W.nsIn K mainGlobals "over" = some (some (.ref f_ov)))
    (l_ov : K.lookup f_ov = some ⟨oc_ov, od_ov, .func (PySem.W.fnOf "over" "over" (defArgs sOver) (defBody sOver) (defScope sOver) .none kV_ov dc_ov pm_ov an_ov cd_ov ct_ov), sl_ov⟩)
    (c_ov : PySem.W.codeIn K cd_ov "over" = true)
    (k_ov : PySem.W.keepIn K (.ref f_ov) = true)
    (a_bh : PySem.W.nsIn K mainGlobals "turn_behind" = some (some (.ref f_bh)))
    (l_bh : K.lookup f_bh = some ⟨oc_bh, od_bh, .func (PySem.W.fnOf "turn_behind" "turn_behind" (defArgs sBehind) (defBody sBehind) (defScope sBehind) .none kV_bh dc_bh pm_bh an_bh cd_bh ct_bh), sl_bh⟩)
    (c_bh : PySem.W.codeIn K cd_bh "turn_behind" = true)
    (k_bh : PySem.W.keepIn K (.ref f_bh) = true)
    (a_bk : PySem.W.nsIn K mainGlobals "back_turn" = some (some (.ref f_bk)))
    (l_bk : K.lookup f_bk = some ⟨oc_bk, od_bk, .func (PySem.W.fnOf "back_turn" "back_turn" (defArgs sBack) (defBody sBack) (defScope sBack) .none kV_bk dc_bk pm_bk an_bk cd_bk ct_bk), sl_bk⟩)
    (c_bk : PySem.W.codeIn K cd_bk "back_turn" = true)
    (k_bk : PySem.W.keepIn K (.ref f_bk) = true)
    (a_ro : PySem.W.nsIn K mainGlobals "round_of" = some (some (.ref f_ro)))
    (l_ro : K.lookup f_ro = some ⟨oc_ro, od_ro, .func (PySem.W.fnOf "round_of" "round_of" (defArgs sRound) (defBody sRound) (defScope sRound) .none kV_ro dc_ro pm_ro an_ro cd_ro ct_ro), sl_ro⟩)
    (c_ro : PySem.W.codeIn K cd_ro "round_of" = true)
    (k_ro : PySem.W.keepIn K (.ref f_ro) = true)
    (a_ot : PySem.W.nsIn K mainGlobals "of_turn" = some (some (.ref f_ot)))
    (l_ot : K.lookup f_ot = some ⟨oc_ot, od_ot, .func (PySem.W.fnOf "of_turn" "of_turn" (defArgs sOfTurn) (defBody sOfTurn) (defScope sOfTurn) .none kV_ot dc_ot pm_ot an_ot cd_ot ct_ot), sl_ot⟩)
    (c_ot : PySem.W.codeIn K cd_ot "of_turn" = true)
    (k_ot : PySem.W.keepIn K (.ref f_ot) = true)
    (a_stt : PySem.W.nsIn K mainGlobals "steer_turning" = some (some (.ref f_stt)))
    (l_stt : K.lookup f_stt = some ⟨oc_stt, od_stt, .func (PySem.W.fnOf "steer_turning" "steer_turning" (defArgs sSteer) (defBody sSteer) (defScope sSteer) .none kV_stt dc_stt pm_stt an_stt cd_stt ct_stt), sl_stt⟩)
    (c_stt : PySem.W.codeIn K cd_stt "steer_turning" = true)
    (k_stt : PySem.W.keepIn K (.ref f_stt) = true)
    (a_isP : PySem.W.nsIn K mainGlobals "is_part" = some (some (.ref f_isP)))
    (l_isP : K.lookup f_isP = some ⟨oc_isP, od_isP, .func (PySem.W.fnOf "is_part" "is_part" (defArgs sIsPart) (defBody sIsPart) (defScope sIsPart) .none kV_isP dc_isP pm_isP an_isP cd_isP ct_isP), sl_isP⟩)
    (c_isP : PySem.W.codeIn K cd_isP "is_part" = true)
    (k_isP : PySem.W.keepIn K (.ref f_isP) = true)
    (a_chP : PySem.W.nsIn K mainGlobals "check_part" = some (some (.ref f_chP)))
    (l_chP : K.lookup f_chP = some ⟨oc_chP, od_chP, .func (PySem.W.fnOf "check_part" "check_part" (defArgs sChkPart) (defBody sChkPart) (defScope sChkPart) .none kV_chP dc_chP pm_chP an_chP cd_chP ct_chP), sl_chP⟩)
    (c_chP : PySem.W.codeIn K cd_chP "check_part" = true)
    (k_chP : PySem.W.keepIn K (.ref f_chP) = true)
    (a_afb : PySem.W.nsIn K mainGlobals "all_forced_by" = some (some (.ref f_afb)))
    (l_afb : K.lookup f_afb = some ⟨oc_afb, od_afb, .func (PySem.W.fnOf "all_forced_by" "all_forced_by" (defArgs sAllFB) (defBody sAllFB) (defScope sAllFB) .none kV_afb dc_afb pm_afb an_afb cd_afb ct_afb), sl_afb⟩)
    (c_afb : PySem.W.codeIn K cd_afb "all_forced_by" = true)
    (k_afb : PySem.W.keepIn K (.ref f_afb) = true)
    (a_to : PySem.W.nsIn K mainGlobals "torn_walls" = some (some (.ref f_to)))
    (l_to : K.lookup f_to = some ⟨oc_to, od_to, .func (PySem.W.fnOf "torn_walls" "torn_walls" (defArgs sTorn) (defBody sTorn) (defScope sTorn) .none kV_to dc_to pm_to an_to cd_to ct_to), sl_to⟩)
    (c_to : PySem.W.codeIn K cd_to "torn_walls" = true)
    (k_to : PySem.W.keepIn K (.ref f_to) = true)
    (a_go : PySem.W.nsIn K mainGlobals "goes_over" = some (some (.ref f_go)))
    (l_go : K.lookup f_go = some ⟨oc_go, od_go, .func (PySem.W.fnOf "goes_over" "goes_over" (defArgs sGoesO) (defBody sGoesO) (defScope sGoesO) .none kV_go dc_go pm_go an_go cd_go ct_go), sl_go⟩)
    (c_go : PySem.W.codeIn K cd_go "goes_over" = true)
    (k_go : PySem.W.keepIn K (.ref f_go) = true)
    (a_so : PySem.W.nsIn K mainGlobals "sides_over" = some (some (.ref f_so)))
    (l_so : K.lookup f_so = some ⟨oc_so, od_so, .func (PySem.W.fnOf "sides_over" "sides_over" (defArgs sSidesO) (defBody sSidesO) (defScope sSidesO) .none kV_so dc_so pm_so an_so cd_so ct_so), sl_so⟩)
    (c_so : PySem.W.codeIn K cd_so "sides_over" = true)
    (k_so : PySem.W.keepIn K (.ref f_so) = true)
    (a_ke : PySem.W.nsIn K mainGlobals "keeps_forcing" = some (some (.ref f_ke)))
    (l_ke : K.lookup f_ke = some ⟨oc_ke, od_ke, .func (PySem.W.fnOf "keeps_forcing" "keeps_forcing" (defArgs sKeeps) (defBody sKeeps) (defScope sKeeps) .none kV_ke dc_ke pm_ke an_ke cd_ke ct_ke), sl_ke⟩)
    (c_ke : PySem.W.codeIn K cd_ke "keeps_forcing" = true)
    (k_ke : PySem.W.keepIn K (.ref f_ke) = true)
    (a_itn : PySem.W.nsIn K mainGlobals "is_turn" = some (some (.ref f_itn)))
    (l_itn : K.lookup f_itn = some ⟨oc_itn, od_itn, .func (PySem.W.fnOf "is_turn" "is_turn" (defArgs sIsTurn) (defBody sIsTurn) (defScope sIsTurn) .none kV_itn dc_itn pm_itn an_itn cd_itn ct_itn), sl_itn⟩)
    (c_itn : PySem.W.codeIn K cd_itn "is_turn" = true)
    (k_itn : PySem.W.keepIn K (.ref f_itn) = true)
    (a_ct : PySem.W.nsIn K mainGlobals "checked_turn" = some (some (.ref f_ct)))
    (l_ct : K.lookup f_ct = some ⟨oc_ct, od_ct, .func (PySem.W.fnOf "checked_turn" "checked_turn" (defArgs sChkT) (defBody sChkT) (defScope sChkT) .none kV_ct dc_ct pm_ct an_ct cd_ct ct_ct), sl_ct⟩)
    (c_ct : PySem.W.codeIn K cd_ct "checked_turn" = true)
    (k_ct : PySem.W.keepIn K (.ref f_ct) = true)
    (a_CH : PySem.W.nsIn K mainGlobals "HallError" = some (some (.ref CH)))
    (a_CB : PySem.W.nsIn K mainGlobals "BadBar" = some (some (.ref CB)))
    (a_CF : PySem.W.nsIn K mainGlobals "Fixed" = some (some (.ref CF)))
    (a_CA : PySem.W.nsIn K mainGlobals "Alike" = some (some (.ref CA)))
    (a_CT : PySem.W.nsIn K mainGlobals "BadTurn" = some (some (.ref CT)))
    (a_CR : PySem.W.nsIn K mainGlobals "BadRoom" = some (some (.ref CR)))
    (a_CM : PySem.W.nsIn K mainGlobals "Missing" = some (some (.ref CM)))
    (a_CN : PySem.W.nsIn K mainGlobals "NothingLeft" = some (some (.ref CN)))
    (i_H : PySem.W.findCls K (.ref CH) (.type "type") "__init__" = some (.val (.ref f_iH)))
    (r_H : PySem.W.readsIn K CH (.type "type") = true)
    (g_H : PySem.W.specialIn K (.ref CH) "__getattribute__" = some (some (.builtin "type.__getattribute__")))
    (v_V : PySem.W.findCls K (.type "ValueError") (.type "type") "__init__" = some (.val (.builtin "ValueError.__init__")))
    (x_CB : K.lookup CB = some (excClassObj nm_CB q_CB CB N_CB bs_CB bm_CB true sn_CB sub_CB ab_CB col_CB dd_CB m0_CB m1_CB m2_CB m3_CB m5_CB "ValueError.__new__"))
    (rv_CB : PySem.HandSPX.refsVE bm_CB = true)
    (sa_CB : PySem.W.findIn K (.ref CB) "__setattr__" = some (some (.builtin "object.__setattr__")))
    (ex_CB : PySem.W.subIn K (.ref CB) (.type "BaseException") = some true)
    (ty_CB : PySem.W.typeIn K (.ref CB) = some (.type "type"))
    (kc_CB : PySem.W.keepIn K (.ref CB) = true)
    (i_CB : PySem.W.findIn K (.ref CB) "__init__" = some (some (.ref f_iB)))
    (t_CB : PySem.W.typeIn K (.ref f_iB) = some (.type "function"))
    (n_CB_word : PySem.W.findIn K (.ref CB) "word" = some none)
    (n_CB_at : PySem.W.findIn K (.ref CB) "at" = some none)
    (x_CF : K.lookup CF = some (excClassObj nm_CF q_CF CF N_CF bs_CF bm_CF true sn_CF sub_CF ab_CF col_CF dd_CF m0_CF m1_CF m2_CF m3_CF m5_CF "ValueError.__new__"))
    (rv_CF : PySem.HandSPX.refsVE bm_CF = true)
    (sa_CF : PySem.W.findIn K (.ref CF) "__setattr__" = some (some (.builtin "object.__setattr__")))
    (ex_CF : PySem.W.subIn K (.ref CF) (.type "BaseException") = some true)
    (ty_CF : PySem.W.typeIn K (.ref CF) = some (.type "type"))
    (kc_CF : PySem.W.keepIn K (.ref CF) = true)
    (i_CF : PySem.W.findIn K (.ref CF) "__init__" = some (some (.ref f_iF)))
    (t_CF : PySem.W.typeIn K (.ref f_iF) = some (.type "function"))
    (n_CF_word : PySem.W.findIn K (.ref CF) "word" = some none)
    (n_CF_side : PySem.W.findIn K (.ref CF) "side" = some none)
    (x_CA : K.lookup CA = some (excClassObj nm_CA q_CA CA N_CA bs_CA bm_CA true sn_CA sub_CA ab_CA col_CA dd_CA m0_CA m1_CA m2_CA m3_CA m5_CA "ValueError.__new__"))
    (rv_CA : PySem.HandSPX.refsVE bm_CA = true)
    (sa_CA : PySem.W.findIn K (.ref CA) "__setattr__" = some (some (.builtin "object.__setattr__")))
    (ex_CA : PySem.W.subIn K (.ref CA) (.type "BaseException") = some true)
    (ty_CA : PySem.W.typeIn K (.ref CA) = some (.type "type"))
    (kc_CA : PySem.W.keepIn K (.ref CA) = true)
    (i_CA : PySem.W.findIn K (.ref CA) "__init__" = some (some (.ref f_iA)))
    (t_CA : PySem.W.typeIn K (.ref f_iA) = some (.type "function"))
    (n_CA_word : PySem.W.findIn K (.ref CA) "word" = some none)
    (n_CA_one : PySem.W.findIn K (.ref CA) "one" = some none)
    (n_CA_other : PySem.W.findIn K (.ref CA) "other" = some none)
    (x_CT : K.lookup CT = some (excClassObj nm_CT q_CT CT N_CT bs_CT bm_CT true sn_CT sub_CT ab_CT col_CT dd_CT m0_CT m1_CT m2_CT m3_CT m5_CT "ValueError.__new__"))
    (rv_CT : PySem.HandSPX.refsVE bm_CT = true)
    (sa_CT : PySem.W.findIn K (.ref CT) "__setattr__" = some (some (.builtin "object.__setattr__")))
    (ga_CT : PySem.W.findIn K (.ref CT) "__getattribute__" = some (some (.builtin "BaseException.__getattribute__")))
    (gg_CT : PySem.W.findIn K (.ref CT) "__getattr__" = some none)
    (hd_CT : PySem.W.hasDictIn K CT = true)
    (ex_CT : PySem.W.subIn K (.ref CT) (.type "BaseException") = some true)
    (ty_CT : PySem.W.typeIn K (.ref CT) = some (.type "type"))
    (kc_CT : PySem.W.keepIn K (.ref CT) = true)
    (i_CT : PySem.W.findIn K (.ref CT) "__init__" = some (some (.ref f_iT)))
    (t_CT : PySem.W.typeIn K (.ref f_iT) = some (.type "function"))
    (n_CT_word : PySem.W.findIn K (.ref CT) "word" = some none)
    (x_CR : K.lookup CR = some (excClassObj nm_CR q_CR CR N_CR bs_CR bm_CR true sn_CR sub_CR ab_CR col_CR dd_CR m0_CR m1_CR m2_CR m3_CR m5_CR "ValueError.__new__"))
    (rv_CR : PySem.HandSPX.refsVE bm_CR = true)
    (sa_CR : PySem.W.findIn K (.ref CR) "__setattr__" = some (some (.builtin "object.__setattr__")))
    (ga_CR : PySem.W.findIn K (.ref CR) "__getattribute__" = some (some (.builtin "BaseException.__getattribute__")))
    (gg_CR : PySem.W.findIn K (.ref CR) "__getattr__" = some none)
    (hd_CR : PySem.W.hasDictIn K CR = true)
    (ex_CR : PySem.W.subIn K (.ref CR) (.type "BaseException") = some true)
    (ty_CR : PySem.W.typeIn K (.ref CR) = some (.type "type"))
    (kc_CR : PySem.W.keepIn K (.ref CR) = true)
    (i_CR : PySem.W.findIn K (.ref CR) "__init__" = some (some (.ref f_iR)))
    (t_CR : PySem.W.typeIn K (.ref f_iR) = some (.type "function"))
    (n_CR_word : PySem.W.findIn K (.ref CR) "word" = some none)
    (l_iH : K.lookup f_iH = some ⟨oc_iH, od_iH, .func (PySem.W.fnOf "__init__" "HallError.__init__" (defArgs sHEinit) (defBody sHEinit) (defScope sHEinit) .none kV_iH dc_iH pm_iH an_iH cd_iH ct_iH), sl_iH⟩)
    (c_iH : PySem.W.codeIn K cd_iH "HallError.__init__" = true)
    (k_iH : PySem.W.keepIn K (.ref f_iH) = true)
    (l_iB : K.lookup f_iB = some ⟨oc_iB, od_iB, .func (PySem.W.fnOf "__init__" "BadBar.__init__" (defArgs sBBinit) (defBody sBBinit) (defScope sBBinit) .none kV_iB dc_iB pm_iB an_iB cd_iB ct_iB), sl_iB⟩)
    (c_iB : PySem.W.codeIn K cd_iB "BadBar.__init__" = true)
    (k_iB : PySem.W.keepIn K (.ref f_iB) = true)
    (l_iF : K.lookup f_iF = some ⟨oc_iF, od_iF, .func (PySem.W.fnOf "__init__" "Fixed.__init__" (defArgs sFXinit) (defBody sFXinit) (defScope sFXinit) .none kV_iF dc_iF pm_iF an_iF cd_iF ct_iF), sl_iF⟩)
    (c_iF : PySem.W.codeIn K cd_iF "Fixed.__init__" = true)
    (k_iF : PySem.W.keepIn K (.ref f_iF) = true)
    (l_iA : K.lookup f_iA = some ⟨oc_iA, od_iA, .func (PySem.W.fnOf "__init__" "Alike.__init__" (defArgs sALinit) (defBody sALinit) (defScope sALinit) .none kV_iA dc_iA pm_iA an_iA cd_iA ct_iA), sl_iA⟩)
    (c_iA : PySem.W.codeIn K cd_iA "Alike.__init__" = true)
    (k_iA : PySem.W.keepIn K (.ref f_iA) = true)
    (l_iT : K.lookup f_iT = some ⟨oc_iT, od_iT, .func (PySem.W.fnOf "__init__" "BadTurn.__init__" (defArgs sBTinit) (defBody sBTinit) (defScope sBTinit) .none kV_iT dc_iT pm_iT an_iT cd_iT ct_iT), sl_iT⟩)
    (c_iT : PySem.W.codeIn K cd_iT "BadTurn.__init__" = true)
    (k_iT : PySem.W.keepIn K (.ref f_iT) = true)
    (l_iR : K.lookup f_iR = some ⟨oc_iR, od_iR, .func (PySem.W.fnOf "__init__" "BadRoom.__init__" (defArgs sBRinit) (defBody sBRinit) (defScope sBRinit) .none kV_iR dc_iR pm_iR an_iR cd_iR ct_iR), sl_iR⟩)
    (c_iR : PySem.W.codeIn K cd_iR "BadRoom.__init__" = true)
    (k_iR : PySem.W.keepIn K (.ref f_iR) = true)
    (e_CT_CH : PySem.W.subIn K (.ref CT) (.ref CH) = some true)
    (e_CT_CM : PySem.W.subIn K (.ref CT) (.ref CM) = some false)
    (e_CT_CN : PySem.W.subIn K (.ref CT) (.ref CN) = some false)
    (e_CR_CH : PySem.W.subIn K (.ref CR) (.ref CH) = some true)
    (e_CR_CM : PySem.W.subIn K (.ref CR) (.ref CM) = some false)
    (e_CR_CN : PySem.W.subIn K (.ref CR) (.ref CN) = some false)
    (ex_CH : PySem.W.subIn K (.ref CH) (.type "BaseException") = some true)
    (ty_CH : PySem.W.typeIn K (.ref CH) = some (.type "type"))
    (ic_CH : PySem.W.isClsIn K CH = true)
    (ex_CM : PySem.W.subIn K (.ref CM) (.type "BaseException") = some true)
    (ty_CM : PySem.W.typeIn K (.ref CM) = some (.type "type"))
    (ic_CM : PySem.W.isClsIn K CM = true)
    (ex_CN : PySem.W.subIn K (.ref CN) (.type "BaseException") = some true)
    (ty_CN : PySem.W.typeIn K (.ref CN) = some (.type "type"))
    (ic_CN : PySem.W.isClsIn K CN = true)
    (a_C : PySem.W.nsIn K mainGlobals "Hall" = some (some (.ref C)))
    (i_C : PySem.W.findIn K (.ref C) "__init__" = some (some (.ref f_hi)))
    (j_C : PySem.W.isFn K (.ref f_hi) = true)
    (pg_C : PySem.W.plainGet K C Str.empty = true)
    (hd_C : PySem.W.hasDictIn K C = true)
    (po_C : PySem.W.plainOver K C = true)
    (sa_C : PySem.W.findIn K (.ref C) "__setattr__" = some (some (.builtin "object.__setattr__")))
    (mk_C : PySem.W.makesIn K C = true)
    (kp_C : PySem.W.keepIn K (.ref C) = true)
    (n1_C : PySem.W.findIn K (.ref C) "wall_text" = some none)
    (n2_C : PySem.W.findIn K (.ref C) "bar_list" = some none)
    (n3_C : PySem.W.findIn K (.ref C) "forced_by" = some none)
    (b_hb : PySem.W.findIn K (.ref C) "bars" = some (some (.ref f_hb)))
    (m_hb : PySem.W.isFn K (.ref f_hb) = true)
    (l_hb : K.lookup f_hb = some ⟨oc_hb, od_hb, .func (PySem.W.fnOf "bars" "Hall.bars" (defArgs sHbars) (defBody sHbars) (defScope sHbars) .none kV_hb dc_hb pm_hb an_hb cd_hb ct_hb), sl_hb⟩)
    (c_hb : PySem.W.codeIn K cd_hb "Hall.bars" = true)
    (k_hb : PySem.W.keepIn K (.ref f_hb) = true)
    (b_hm : PySem.W.findIn K (.ref C) "is_room" = some (some (.ref f_hm)))
    (m_hm : PySem.W.isFn K (.ref f_hm) = true)
    (l_hm : K.lookup f_hm = some ⟨oc_hm, od_hm, .func (PySem.W.fnOf "is_room" "Hall.is_room" (defArgs sHroom) (defBody sHroom) (defScope sHroom) .none kV_hm dc_hm pm_hm an_hm cd_hm ct_hm), sl_hm⟩)
    (c_hm : PySem.W.codeIn K cd_hm "Hall.is_room" = true)
    (k_hm : PySem.W.keepIn K (.ref f_hm) = true)
    (b_hr : PySem.W.findIn K (.ref C) "rooms" = some (some (.ref f_hr)))
    (m_hr : PySem.W.isFn K (.ref f_hr) = true)
    (l_hr : K.lookup f_hr = some ⟨oc_hr, od_hr, .func (PySem.W.fnOf "rooms" "Hall.rooms" (defArgs sHrooms) (defBody sHrooms) (defScope sHrooms) .none kV_hr dc_hr pm_hr an_hr cd_hr ct_hr), sl_hr⟩)
    (c_hr : PySem.W.codeIn K cd_hr "Hall.rooms" = true)
    (k_hr : PySem.W.keepIn K (.ref f_hr) = true)
    (b_hg : PySem.W.findIn K (.ref C) "goes_with" = some (some (.ref f_hg)))
    (m_hg : PySem.W.isFn K (.ref f_hg) = true)
    (l_hg : K.lookup f_hg = some ⟨oc_hg, od_hg, .func (PySem.W.fnOf "goes_with" "Hall.goes_with" (defArgs sHgoes) (defBody sHgoes) (defScope sHgoes) .none kV_hg dc_hg pm_hg an_hg cd_hg ct_hg), sl_hg⟩)
    (c_hg : PySem.W.codeIn K cd_hg "Hall.goes_with" = true)
    (k_hg : PySem.W.keepIn K (.ref f_hg) = true)
    (b_hwl : PySem.W.findIn K (.ref C) "walls" = some (some (.ref f_hwl)))
    (m_hwl : PySem.W.isFn K (.ref f_hwl) = true)
    (l_hwl : K.lookup f_hwl = some ⟨oc_hwl, od_hwl, .func (PySem.W.fnOf "walls" "Hall.walls" (defArgs sHwalls) (defBody sHwalls) (defScope sHwalls) .none kV_hwl dc_hwl pm_hwl an_hwl cd_hwl ct_hwl), sl_hwl⟩)
    (c_hwl : PySem.W.codeIn K cd_hwl "Hall.walls" = true)
    (k_hwl : PySem.W.keepIn K (.ref f_hwl) = true)
    (b_hfo : PySem.W.findIn K (.ref C) "forced" = some (some (.ref f_hfo)))
    (m_hfo : PySem.W.isFn K (.ref f_hfo) = true)
    (l_hfo : K.lookup f_hfo = some ⟨oc_hfo, od_hfo, .func (PySem.W.fnOf "forced" "Hall.forced" (defArgs sHforced) (defBody sHforced) (defScope sHforced) .none kV_hfo dc_hfo pm_hfo an_hfo cd_hfo ct_hfo), sl_hfo⟩)
    (c_hfo : PySem.W.codeIn K cd_hfo "Hall.forced" = true)
    (k_hfo : PySem.W.keepIn K (.ref f_hfo) = true)
    (l_hi : K.lookup f_hi = some ⟨oc_hi, od_hi, .func (PySem.W.fnOf "__init__" "Hall.__init__" (defArgs sHinit) (defBody sHinit) (defScope sHinit) (.ref T_hi) kV_hi dc_hi pm_hi an_hi cd_hi ct_hi), sl_hi⟩)
    (c_hi : PySem.W.codeIn K cd_hi "Hall.__init__" = true)
    (k_hi : PySem.W.keepIn K (.ref f_hi) = true)
    (d_hi : K.lookup T_hi = some ⟨oc_T, od_T, .seq [Value.ref e_hi].toArray n_T, sl_T⟩)
    (a_CTb : PySem.W.nsIn K mainGlobals "Table" = some (some (.ref CTb)))
    (i_CTb : PySem.W.findIn K (.ref CTb) "__init__" = some (some (.ref f_tbI)))
    (j_CTb : PySem.W.isFn K (.ref f_tbI) = true)
    (pg_CTb : PySem.W.plainGet K CTb Str.empty = true)
    (hd_CTb : PySem.W.hasDictIn K CTb = true)
    (po_CTb : PySem.W.plainOver K CTb = true)
    (sa_CTb : PySem.W.findIn K (.ref CTb) "__setattr__" = some (some (.builtin "object.__setattr__")))
    (mk_CTb : PySem.W.makesIn K CTb = true)
    (kp_CTb : PySem.W.keepIn K (.ref CTb) = true)
    (l_tbI : K.lookup f_tbI = some ⟨oc_tbI, od_tbI, .func (PySem.W.fnOf "__init__" "Table.__init__" (defArgs sTabI) (defBody sTabI) (defScope sTabI) .none kV_tbI dc_tbI pm_tbI an_tbI cd_tbI ct_tbI), sl_tbI⟩)
    (c_tbI : PySem.W.codeIn K cd_tbI "Table.__init__" = true)
    (k_tbI : PySem.W.keepIn K (.ref f_tbI) = true)
    (z_list : PySem.W.nsIn K mainGlobals "list" = some none)
    (z_sorted : PySem.W.nsIn K mainGlobals "sorted" = some none)
    (z_set : PySem.W.nsIn K mainGlobals "set" = some none)
    (z_all : PySem.W.nsIn K mainGlobals "all" = some none)
    (z_len : PySem.W.nsIn K mainGlobals "len" = some none)
    (z_enumerate : PySem.W.nsIn K mainGlobals "enumerate" = some none)
    (z_range : PySem.W.nsIn K mainGlobals "range" = some none)
    (z_isinstance : PySem.W.nsIn K mainGlobals "isinstance" = some none)
    (z_tuple : PySem.W.nsIn K mainGlobals "tuple" = some none)
    (z_any : PySem.W.nsIn K mainGlobals "any" = some none)
    (z_ValueError : PySem.W.nsIn K mainGlobals "ValueError" = some none)
    (z_bool : PySem.W.nsIn K mainGlobals "bool" = some none)
    (z_str : PySem.W.nsIn K mainGlobals "str" = some none)
    (z_zip : PySem.W.nsIn K mainGlobals "zip" = some none)
    (w_W : PySem.W.nsIn K mainGlobals "WIDEST" = some (some (.int 12 tw)))
    (w_MOST_CALLS : PySem.W.nsIn K mainGlobals "MOST_CALLS" = some (some (.int 12 tc)))
    (a_L : PySem.W.nsIn K mainGlobals "law" = some (some (.ref fL)))
    (l_L : K.lookup fL = some ⟨ocL, odL, .func (PySem.W.fnOf "law" "law" (defArgs sLaw) (defBody sLaw) (defScope sLaw) .none kVL dcL pmL anL (.ref c) ctL), slL⟩)
    (c_L : PySem.W.codeIn K (.ref c) "law" = true)
    (h_L : PySem.W.codeHdIn K c PT = true)
    : LamX.LawAtS l w K CX0 13 63 "_law_script" mg fa h := by
  have F_O := fun_mk (st := sOther) l_O c_O k_O
  have D_O : DF K mg "other" sOther ["side"] f_O _ := ⟨F_O, PySem.W.mg_of X G a_O, F_O.binds (ps := ["side"]) fun _ _ _ _ _ _ us hl => match us, hl with | [_], _ => rfl⟩
  have F_S := fun_mk (st := sSides) l_S c_S k_S
  have D_S : DF K mg "sides_of" sSides ["walls"] f_S _ := ⟨F_S, PySem.W.mg_of X G a_S, F_S.binds (ps := ["walls"]) fun _ _ _ _ _ _ us hl => match us, hl with | [_], _ => rfl⟩
  have F_Y := fun_mk (st := sByWalls) l_Y c_Y k_Y
  have D_Y : DF K mg "by_walls" sByWalls ["walls", "sides"] f_Y _ := ⟨F_Y, PySem.W.mg_of X G a_Y, F_Y.binds (ps := ["walls", "sides"]) fun _ _ _ _ _ _ us hl => match us, hl with | [_, _], _ => rfl⟩
  have F_W := fun_mk (st := sIsWalls) l_W c_W k_W
  have D_W : DF K mg "is_walls" sIsWalls ["walls"] f_W _ := ⟨F_W, PySem.W.mg_of X G a_W, F_W.binds (ps := ["walls"]) fun _ _ _ _ _ _ us hl => match us, hl with | [_], _ => rfl⟩
  have F_I := fun_mk (st := sIsBar) l_I c_I k_I
  have D_I : DF K mg "is_bar" sIsBar ["walls", "bar"] f_I _ := ⟨F_I, PySem.W.mg_of X G a_I, F_I.binds (ps := ["walls", "bar"]) fun _ _ _ _ _ _ us hl => match us, hl with | [_, _], _ => rfl⟩
  have F_cw := fun_mk (st := sChkWalls) l_cw c_cw k_cw
  have D_cw : DF K mg "check_walls" sChkWalls ["walls"] f_cw _ := ⟨F_cw, PySem.W.mg_of X G a_cw, F_cw.binds (ps := ["walls"]) fun _ _ _ _ _ _ us hl => match us, hl with | [_], _ => rfl⟩
  have F_cb := fun_mk (st := sChkBars) l_cb c_cb k_cb
  have D_cb : DF K mg "check_bars" sChkBars ["walls", "bars"] f_cb _ := ⟨F_cb, PySem.W.mg_of X G a_cb, F_cb.binds (ps := ["walls", "bars"]) fun _ _ _ _ _ _ us hl => match us, hl with | [_, _], _ => rfl⟩
  have F_cs := fun_mk (st := sChkSide) l_cs c_cs k_cs
  have D_cs : DF K mg "check_side" sChkSide ["walls", "side"] f_cs _ := ⟨F_cs, PySem.W.mg_of X G a_cs, F_cs.binds (ps := ["walls", "side"]) fun _ _ _ _ _ _ us hl => match us, hl with | [_, _], _ => rfl⟩
  have F_st := fun_mk (st := sStraight) l_st c_st k_st
  have D_st : DF K mg "straight_from" sStraight ["walls", "bars"] f_st _ := ⟨F_st, PySem.W.mg_of X G a_st, F_st.binds (ps := ["walls", "bars"]) fun _ _ _ _ _ _ us hl => match us, hl with | [_, _], _ => rfl⟩
  have F_re := fun_mk (st := sReached) l_re c_re k_re
  have D_re : DF K mg "reached" sReached ["straight", "one"] f_re _ := ⟨F_re, PySem.W.mg_of X G a_re, F_re.binds (ps := ["straight", "one"]) fun _ _ _ _ _ _ us hl => match us, hl with | [_, _], _ => rfl⟩
  have F_af := fun_mk (st := sAllF) l_af c_af k_af
  have D_af : DF K mg "all_forced" sAllF ["walls", "bars"] f_af _ := ⟨F_af, PySem.W.mg_of X G a_af, F_af.binds (ps := ["walls", "bars"]) fun _ _ _ _ _ _ us hl => match us, hl with | [_, _], _ => rfl⟩
  have F_cf := fun_mk (st := sChkFix) l_cf c_cf k_cf
  have D_cf : DF K mg "check_fixed" sChkFix ["forced_by"] f_cf _ := ⟨F_cf, PySem.W.mg_of X G a_cf, F_cf.binds (ps := ["forced_by"]) fun _ _ _ _ _ _ us hl => match us, hl with | [_], _ => rfl⟩
  have F_ca := fun_mk (st := sChkAl) l_ca c_ca k_ca
  have D_ca : DF K mg "check_alike" sChkAl ["forced_by"] f_ca _ := ⟨F_ca, PySem.W.mg_of X G a_ca, F_ca.binds (ps := ["forced_by"]) fun _ _ _ _ _ _ us hl => match us, hl with | [_], _ => rfl⟩
  have F_start := fun_mk (st := sStart) l_start c_start k_start
  have D_start : DF K mg "_law_start" sStart ["_law_script"] f_start _ := ⟨F_start, PySem.W.mg_of X G a_start, F_start.binds (ps := ["_law_script"]) fun _ _ _ _ _ _ us hl => match us, hl with | [_], _ => rfl⟩
  have F_draw := fun_mk (st := sDraw) l_draw c_draw k_draw
  have D_draw : DF K mg "_law_draw" sDraw ["_law_d", "_law_many"] f_draw _ := ⟨F_draw, PySem.W.mg_of X G a_draw, F_draw.binds (ps := ["_law_d", "_law_many"]) fun _ _ _ _ _ _ us hl => match us, hl with | [_, _], _ => rfl⟩
  have F_of := fun_mk (st := sOf) l_of c_of k_of
  have D_of : DF K mg "_law_of" sOf ["_law_d", "_law_some"] f_of _ := ⟨F_of, PySem.W.mg_of X G a_of, F_of.binds (ps := ["_law_d", "_law_some"]) fun _ _ _ _ _ _ us hl => match us, hl with | [_, _], _ => rfl⟩
  have F_mixed := fun_mk (st := sLMix) l_mixed c_mixed k_mixed
  have D_mixed : DF K mg "_law_mixed" sLMix ["_law_d", "_law_some"] f_mixed _ := ⟨F_mixed, PySem.W.mg_of X G a_mixed, F_mixed.binds (ps := ["_law_d", "_law_some"]) fun _ _ _ _ _ _ us hl => match us, hl with | [_, _], _ => rfl⟩
  have F_letters := fun_mk (st := sLetters) l_letters c_letters k_letters
  have D_letters : DF K mg "_law_letters" sLetters [] f_letters _ := ⟨F_letters, PySem.W.mg_of X G a_letters, F_letters.binds (ps := []) fun _ _ _ _ _ _ us hl => match us, hl with | [], _ => rfl⟩
  have F_shuts := fun_mk (st := sShuts) l_shuts c_shuts k_shuts
  have D_shuts : DF K mg "_law_shuts" sShuts ["_law_d", "_law_most"] f_shuts _ := ⟨F_shuts, PySem.W.mg_of X G a_shuts, F_shuts.binds (ps := ["_law_d", "_law_most"]) fun _ _ _ _ _ _ us hl => match us, hl with | [_, _], _ => rfl⟩
  have F_oth := fun_mk (st := sOth) l_oth c_oth k_oth
  have D_oth : DF K mg "_law_other" sOth ["_law_side"] f_oth _ := ⟨F_oth, PySem.W.mg_of X G a_oth, F_oth.binds (ps := ["_law_side"]) fun _ _ _ _ _ _ us hl => match us, hl with | [_], _ => rfl⟩
  have F_wit := fun_mk (st := sWithin) l_wit c_wit k_wit
  have D_wit : DF K mg "_law_within" sWithin ["_law_sides", "_law_room"] f_wit _ := ⟨F_wit, PySem.W.mg_of X G a_wit, F_wit.binds (ps := ["_law_sides", "_law_room"]) fun _ _ _ _ _ _ us hl => match us, hl with | [_, _], _ => rfl⟩
  have F_pairs := fun_mk (st := sPairs) l_pairs c_pairs k_pairs
  have D_pairs : DF K mg "_law_pairs" sPairs ["_law_shuts_here"] f_pairs _ := ⟨F_pairs, PySem.W.mg_of X G a_pairs, F_pairs.binds (ps := ["_law_shuts_here"]) fun _ _ _ _ _ _ us hl => match us, hl with | [_], _ => rfl⟩
  have F_all := fun_mk (st := sAll) l_all c_all k_all
  have D_all : DF K mg "_law_all" sAll ["_law_shuts_here"] f_all _ := ⟨F_all, PySem.W.mg_of X G a_all, F_all.binds (ps := ["_law_shuts_here"]) fun _ _ _ _ _ _ us hl => match us, hl with | [_], _ => rfl⟩
  have F_rms := fun_mk (st := sRooms) l_rms c_rms k_rms
  have D_rms : DF K mg "_law_rooms" sRooms ["_law_shuts_here", "_law_bars"] f_rms _ := ⟨F_rms, PySem.W.mg_of X G a_rms, F_rms.binds (ps := ["_law_shuts_here", "_law_bars"]) fun _ _ _ _ _ _ us hl => match us, hl with | [_, _], _ => rfl⟩
  have F_fine := fun_mk (st := sFine) l_fine c_fine k_fine
  have D_fine : DF K mg "_law_fine" sFine ["_law_shuts_here", "_law_rooms_here"] f_fine _ := ⟨F_fine, PySem.W.mg_of X G a_fine, F_fine.binds (ps := ["_law_shuts_here", "_law_rooms_here"]) fun _ _ _ _ _ _ us hl => match us, hl with | [_, _], _ => rfl⟩
  have F_hall := fun_mk (st := sHall) l_hall c_hall k_hall
  have D_hall : DF K mg "_law_hall" sHall ["_law_d", "_law_most"] f_hall _ := ⟨F_hall, PySem.W.mg_of X G a_hall, F_hall.binds (ps := ["_law_d", "_law_most"]) fun _ _ _ _ _ _ us hl => match us, hl with | [_, _], _ => rfl⟩
  have F_img := fun_mk (st := sLImg) l_img c_img k_img
  have D_img : DF K mg "_law_image" sLImg ["_law_shuts_here", "_law_turn", "_law_sides"] f_img _ := ⟨F_img, PySem.W.mg_of X G a_img, F_img.binds (ps := ["_law_shuts_here", "_law_turn", "_law_sides"]) fun _ _ _ _ _ _ us hl => match us, hl with | [_, _, _], _ => rfl⟩
  have F_bys := fun_mk (st := sLByS) l_bys c_bys k_bys
  have D_bys : DF K mg "_law_by_shuts" sLByS ["_law_sides"] f_bys _ := ⟨F_bys, PySem.W.mg_of X G a_bys, F_bys.binds (ps := ["_law_sides"]) fun _ _ _ _ _ _ us hl => match us, hl with | [_], _ => rfl⟩
  have F_smt := fun_mk (st := sLSome) l_smt c_smt k_smt
  have D_smt : DF K mg "_law_some_turn" sLSome ["_law_d", "_law_shuts_here"] f_smt _ := ⟨F_smt, PySem.W.mg_of X G a_smt, F_smt.binds (ps := ["_law_d", "_law_shuts_here"]) fun _ _ _ _ _ _ us hl => match us, hl with | [_, _], _ => rfl⟩
  have F_word := fun_mk (st := sWord) l_word c_word k_word
  have D_word : DF K mg "_law_word" sWord ["_law_ask"] f_word _ := ⟨F_word, PySem.W.mg_of X G a_word, F_word.binds (ps := ["_law_ask"]) fun _ _ _ _ _ _ us hl => match us, hl with | [_], _ => rfl⟩
  have F_ref := fun_mk (st := sRef) l_ref c_ref k_ref
  have D_ref : DF K mg "_law_refused" sRef ["_law_ask", "_law_due"] f_ref _ := ⟨F_ref, PySem.W.mg_of X G a_ref, F_ref.binds (ps := ["_law_ask", "_law_due"]) fun _ _ _ _ _ _ us hl => match us, hl with | [_, _], _ => rfl⟩
  have F_ist := fun_mk (st := sLIsT) l_ist c_ist k_ist
  have D_ist : DF K mg "_law_is_turn" sLIsT ["_law_shuts_here", "_law_rooms_here", "_law_text"] f_ist _ := ⟨F_ist, PySem.W.mg_of X G a_ist, F_ist.binds (ps := ["_law_shuts_here", "_law_rooms_here", "_law_text"]) fun _ _ _ _ _ _ us hl => match us, hl with | [_, _, _], _ => rfl⟩
  have F_chk := fun_mk (st := sChkRoom) l_chk c_chk k_chk
  have D_chk : DF K mg "check_room" sChkRoom ["hall", "room"] f_chk _ := ⟨F_chk, PySem.W.mg_of X G a_chk, F_chk.binds (ps := ["hall", "room"]) fun _ _ _ _ _ _ us hl => match us, hl with | [_, _], _ => rfl⟩
  have F_sh := fun_mk (st := sShut) l_sh c_sh k_sh
  have D_sh : DF K mg "shut" sShut ["hall", "part"] f_sh _ := ⟨F_sh, PySem.W.mg_of X G a_sh, F_sh.binds (ps := ["hall", "part"]) fun _ _ _ _ _ _ us hl => match us, hl with | [_, _], _ => rfl⟩
  have F_sc := fun_mk (st := sShCalls) l_sc c_sc k_sc
  have D_sc : DF K mg "shut_calls" sShCalls ["hall", "calls", "most"] f_sc _ := ⟨F_sc, PySem.W.mg_of X G a_sc, F_sc.binds (ps := ["hall", "calls", "most"]) fun _ _ _ _ _ _ us hl => match us, hl with | [_, _, _], _ => rfl⟩
  have F_tu := fun_mk (st := sTurned) l_tu c_tu k_tu
  have D_tu : DF K mg "turned" sTurned ["hall", "turn", "room"] f_tu _ := ⟨F_tu, PySem.W.mg_of X G a_tu, F_tu.binds (ps := ["hall", "turn", "room"]) fun _ _ _ _ _ _ us hl => match us, hl with | [_, _, _], _ => rfl⟩
  have F_ov := fun_mk (st := sOver) l_ov c_ov k_ov
  have D_ov : DF K mg "over" sOver ["hall", "turn", "part"] f_ov _ := ⟨F_ov, PySem.W.mg_of X G a_ov, F_ov.binds (ps := ["hall", "turn", "part"]) fun _ _ _ _ _ _ us hl => match us, hl with | [_, _, _], _ => rfl⟩
  have F_bh := fun_mk (st := sBehind) l_bh c_bh k_bh
  have D_bh : DF K mg "turn_behind" sBehind ["hall", "one", "two"] f_bh _ := ⟨F_bh, PySem.W.mg_of X G a_bh, F_bh.binds (ps := ["hall", "one", "two"]) fun _ _ _ _ _ _ us hl => match us, hl with | [_, _, _], _ => rfl⟩
  have F_bk := fun_mk (st := sBack) l_bk c_bk k_bk
  have D_bk : DF K mg "back_turn" sBack ["hall", "turn"] f_bk _ := ⟨F_bk, PySem.W.mg_of X G a_bk, F_bk.binds (ps := ["hall", "turn"]) fun _ _ _ _ _ _ us hl => match us, hl with | [_, _], _ => rfl⟩
  have F_ro := fun_mk (st := sRound) l_ro c_ro k_ro
  have D_ro : DF K mg "round_of" sRound ["hall", "turn"] f_ro _ := ⟨F_ro, PySem.W.mg_of X G a_ro, F_ro.binds (ps := ["hall", "turn"]) fun _ _ _ _ _ _ us hl => match us, hl with | [_, _], _ => rfl⟩
  have F_ot := fun_mk (st := sOfTurn) l_ot c_ot k_ot
  have D_ot : DF K mg "of_turn" sOfTurn ["hall", "turn"] f_ot _ := ⟨F_ot, PySem.W.mg_of X G a_ot, F_ot.binds (ps := ["hall", "turn"]) fun _ _ _ _ _ _ us hl => match us, hl with | [_, _], _ => rfl⟩
  have F_stt := fun_mk (st := sSteer) l_stt c_stt k_stt
  have D_stt : DF K mg "steer_turning" sSteer ["hall", "calls", "turns", "room", "goal"] f_stt _ := ⟨F_stt, PySem.W.mg_of X G a_stt, F_stt.binds (ps := ["hall", "calls", "turns", "room", "goal"]) fun _ _ _ _ _ _ us hl => match us, hl with | [_, _, _, _, _], _ => rfl⟩
  have F_isP := fun_mk (st := sIsPart) l_isP c_isP k_isP
  have D_isP : DF K mg "is_part" sIsPart ["hall", "part"] f_isP _ := ⟨F_isP, PySem.W.mg_of X G a_isP, F_isP.binds (ps := ["hall", "part"]) fun _ _ _ _ _ _ us hl => match us, hl with | [_, _], _ => rfl⟩
  have F_chP := fun_mk (st := sChkPart) l_chP c_chP k_chP
  have D_chP : DF K mg "check_part" sChkPart ["hall", "part"] f_chP _ := ⟨F_chP, PySem.W.mg_of X G a_chP, F_chP.binds (ps := ["hall", "part"]) fun _ _ _ _ _ _ us hl => match us, hl with | [_, _], _ => rfl⟩
  have F_afb := fun_mk (st := sAllFB) l_afb c_afb k_afb
  have D_afb : DF K mg "all_forced_by" sAllFB ["hall", "part"] f_afb _ := ⟨F_afb, PySem.W.mg_of X G a_afb, F_afb.binds (ps := ["hall", "part"]) fun _ _ _ _ _ _ us hl => match us, hl with | [_, _], _ => rfl⟩
  have F_to := fun_mk (st := sTorn) l_to c_to k_to
  have D_to : DF K mg "torn_walls" sTorn ["hall", "part"] f_to _ := ⟨F_to, PySem.W.mg_of X G a_to, F_to.binds (ps := ["hall", "part"]) fun _ _ _ _ _ _ us hl => match us, hl with | [_, _], _ => rfl⟩
  have F_go := fun_mk (st := sGoesO) l_go c_go k_go
  have D_go : DF K mg "goes_over" sGoesO ["walls", "turn"] f_go _ := ⟨F_go, PySem.W.mg_of X G a_go, F_go.binds (ps := ["walls", "turn"]) fun _ _ _ _ _ _ us hl => match us, hl with | [_, _], _ => rfl⟩
  have F_so := fun_mk (st := sSidesO) l_so c_so k_so
  have D_so : DF K mg "sides_over" sSidesO ["into", "sides"] f_so _ := ⟨F_so, PySem.W.mg_of X G a_so, F_so.binds (ps := ["into", "sides"]) fun _ _ _ _ _ _ us hl => match us, hl with | [_, _], _ => rfl⟩
  have F_ke := fun_mk (st := sKeeps) l_ke c_ke k_ke
  have D_ke : DF K mg "keeps_forcing" sKeeps ["hall", "into"] f_ke _ := ⟨F_ke, PySem.W.mg_of X G a_ke, F_ke.binds (ps := ["hall", "into"]) fun _ _ _ _ _ _ us hl => match us, hl with | [_, _], _ => rfl⟩
  have F_itn := fun_mk (st := sIsTurn) l_itn c_itn k_itn
  have D_itn : DF K mg "is_turn" sIsTurn ["hall", "turn"] f_itn _ := ⟨F_itn, PySem.W.mg_of X G a_itn, F_itn.binds (ps := ["hall", "turn"]) fun _ _ _ _ _ _ us hl => match us, hl with | [_, _], _ => rfl⟩
  have F_ct := fun_mk (st := sChkT) l_ct c_ct k_ct
  have D_ct : DF K mg "checked_turn" sChkT ["hall", "turn"] f_ct _ := ⟨F_ct, PySem.W.mg_of X G a_ct, F_ct.binds (ps := ["hall", "turn"]) fun _ _ _ _ _ _ us hl => match us, hl with | [_, _], _ => rfl⟩
  have F_iH := fun_mk (st := sHEinit) l_iH c_iH k_iH
  have b_iH := F_iH.binds (ps := ["self", "word"]) fun _ _ _ _ _ _ us hl => match us, hl with | [_, _], _ => rfl
  have F_iB := fun_mk (st := sBBinit) l_iB c_iB k_iB
  have b_iB := F_iB.binds (ps := ["self", "at"]) fun _ _ _ _ _ _ us hl => match us, hl with | [_, _], _ => rfl
  have F_iF := fun_mk (st := sFXinit) l_iF c_iF k_iF
  have b_iF := F_iF.binds (ps := ["self", "side"]) fun _ _ _ _ _ _ us hl => match us, hl with | [_, _], _ => rfl
  have F_iA := fun_mk (st := sALinit) l_iA c_iA k_iA
  have b_iA := F_iA.binds (ps := ["self", "one", "other"]) fun _ _ _ _ _ _ us hl => match us, hl with | [_, _, _], _ => rfl
  have F_iT := fun_mk (st := sBTinit) l_iT c_iT k_iT
  have b_iT := F_iT.binds (ps := ["self"]) fun _ _ _ _ _ _ us hl => match us, hl with | [_], _ => rfl
  have F_iR := fun_mk (st := sBRinit) l_iR c_iR k_iR
  have b_iR := F_iR.binds (ps := ["self"]) fun _ _ _ _ _ _ us hl => match us, hl with | [_], _ => rfl
  have e := hfa.symm.trans (PySem.W.mg_of X G a_L)
  cases e
  have B : BM mg := ⟨PySem.W.mg_none_of X G z_list, PySem.W.mg_none_of X G z_sorted, PySem.W.mg_none_of X G z_set, PySem.W.mg_none_of X G z_all, PySem.W.mg_none_of X G z_len, PySem.W.mg_none_of X G z_enumerate, PySem.W.mg_none_of X G z_range, PySem.W.mg_none_of X G z_isinstance, PySem.W.mg_none_of X G z_tuple⟩
  have he : HE K mg CH f_iH _ := ⟨PySem.W.mg_of X G a_CH, ⟨_, ⟨r_H, g_H⟩, i_H⟩, F_iH, b_iH, PySem.W.mg_none_of X G z_ValueError, v_V⟩
  have xCB : XC K mg "BadBar" "BadBar.__init__" sBBinit "at" CB f_iB _ := ⟨PySem.W.mg_of X G a_CB, ⟨⟨_, _, _, _, _, _, _, _, _, _, _, _, _, _, _, x_CB, rv_CB⟩, sa_CB, ex_CB, ty_CB, kc_CB⟩, n_CB_word, n_CB_at, i_CB, t_CB, F_iB, b_iB⟩
  have xCF : XC K mg "Fixed" "Fixed.__init__" sFXinit "side" CF f_iF _ := ⟨PySem.W.mg_of X G a_CF, ⟨⟨_, _, _, _, _, _, _, _, _, _, _, _, _, _, _, x_CF, rv_CF⟩, sa_CF, ex_CF, ty_CF, kc_CF⟩, n_CF_word, n_CF_side, i_CF, t_CF, F_iF, b_iF⟩
  have xCA : XC2 K mg CA f_iA _ := ⟨PySem.W.mg_of X G a_CA, ⟨⟨_, _, _, _, _, _, _, _, _, _, _, _, _, _, _, x_CA, rv_CA⟩, sa_CA, ex_CA, ty_CA, kc_CA⟩, n_CA_word, n_CA_one, n_CA_other, i_CA, t_CA, F_iA, b_iA⟩
  have xCT : XC0 K mg "BadTurn" "BadTurn.__init__" sBTinit CT f_iT _ := ⟨PySem.W.mg_of X G a_CT, ⟨⟨_, _, _, _, _, _, _, _, _, _, _, _, _, _, _, x_CT, rv_CT⟩, sa_CT, ex_CT, ty_CT, kc_CT⟩, n_CT_word, i_CT, t_CT, F_iT, b_iT⟩
  have xCR : XC0 K mg "BadRoom" "BadRoom.__init__" sBRinit CR f_iR _ := ⟨PySem.W.mg_of X G a_CR, ⟨⟨_, _, _, _, _, _, _, _, _, _, _, _, _, _, _, x_CR, rv_CR⟩, sa_CR, ex_CR, ty_CR, kc_CR⟩, n_CR_word, i_CR, t_CR, F_iR, b_iR⟩
  have T8 := Txt8.mk B (PySem.W.mg_of X G w_W) D_O D_S D_Y D_W D_I D_cw D_cb D_cs D_st D_re D_af D_cf D_ca he xCB xCF xCA
  have F_hm := fun_mk (st := sHroom) l_hm c_hm k_hm
  have b1_hm := F_hm.binds (ps := ["self", "room"]) fun _ _ _ _ _ _ us hl => match us, hl with | [_, _], _ => rfl
  have F_hr := fun_mk (st := sHrooms) l_hr c_hr k_hr
  have b1_hr := F_hr.binds (ps := ["self"]) fun _ _ _ _ _ _ us hl => match us, hl with | [_], _ => rfl
  have F_hg := fun_mk (st := sHgoes) l_hg c_hg k_hg
  have b1_hg := F_hg.binds (ps := ["self", "side", "begun"]) fun _ _ _ _ _ _ us hl => match us, hl with | [_, _, _], _ => rfl
  have F_hwl := fun_mk (st := sHwalls) l_hwl c_hwl k_hwl
  have b1_hwl := F_hwl.binds (ps := ["self"]) fun _ _ _ _ _ _ us hl => match us, hl with | [_], _ => rfl
  have F_hfo := fun_mk (st := sHforced) l_hfo c_hfo k_hfo
  have b1_hfo := F_hfo.binds (ps := ["self", "side"]) fun _ _ _ _ _ _ us hl => match us, hl with | [_, _], _ => rfl
  have F_tbI := fun_mk (st := sTabI) l_tbI c_tbI k_tbI
  have b1_tbI := F_tbI.binds (ps := ["self", "hall", "entries"]) fun _ _ _ _ _ _ us hl => match us, hl with | [_, _, _], _ => rfl
  have hp : HP K C f_hwl f_hfo _ _ := ⟨⟨b_hwl, m_hwl, k_hwl⟩, F_hwl, b1_hwl, ⟨b_hfo, m_hfo, k_hfo⟩, F_hfo, b1_hfo⟩
  have mm : HM K C f_hm f_hr f_hg _ _ _ := ⟨⟨b_hm, m_hm, k_hm⟩, F_hm, b1_hm, ⟨b_hr, m_hr, k_hr⟩, F_hr, b1_hr, ⟨b_hg, m_hg, k_hg⟩, F_hg, b1_hg⟩
  have Fb := fun_mk (st := sHbars) l_hb c_hb k_hb
  have FD : FunD K "__init__" "Hall.__init__" (defArgs sHinit) (defBody sHinit) (defScope sHinit) [.ref e_hi] [] f_hi _ := ⟨⟨_, _, _, _, _, _, _, _, _, _, rfl, l_hi, c_hi, .inr ⟨by simp, T_hi, _, [.ref e_hi], n_T, rfl, d_hi, rfl, .cons rfl .nil⟩, .inl rfl⟩, k_hi⟩
  obtain ⟨ds, hds, hbi⟩ := FD.binds1 (ps := ["self", "walls", "bars"]) 3 1 (by simp) rfl (fun _ _ _ _ _ _ _ us its h1 h2 => match us, its, h1, h2 with | [_, _, _], [_], _, _ => ⟨_, rfl, rfl⟩)
  have hds2 : ds = [] := by
    have z : Vals ([] : List V) ds := hds
    cases z
    rfl
  subst hds2
  have zz : HC K mg C f_hi f_hb _ _ := ⟨PySem.W.mg_of X G a_C, ⟨pg_C, hd_C, po_C, sa_C⟩, ⟨mk_C, i_C, j_C, kp_C⟩, ⟨_, FD⟩, hbi, n1_C, n2_C, n3_C, ⟨b_hb, m_hb, k_hb⟩, Fb, Fb.binds (ps := ["self"]) fun _ _ _ _ _ _ us hl => match us, hl with | [_], _ => rfl⟩
  have yy := NC.PT.mk hp D_isP D_chP D_afb D_to
  have ut := TT_.mk D_go D_so D_ke D_itn D_ct (PySem.W.mg_none_of X G z_zip)
  have tb : TbC K mg CTb f_tbI _ := ⟨⟨mk_CTb, i_CTb, j_CTb, kp_CTb⟩, PySem.W.mg_of X G a_CTb, b1_tbI⟩
  have ee : EX K mg CH CM CN CT CR := ⟨PySem.W.mg_of X G a_CM, PySem.W.mg_of X G a_CN, ⟨ga_CT, gg_CT, ex_CT, hd_CT⟩, ⟨ga_CR, gg_CR, ex_CR, hd_CR⟩, exmAny_of (exm_of ex_CH ic_CH ty_CH e_CT_CH) (exmAny_of (exm_of ex_CM ic_CM ty_CM e_CT_CM) (exmAny_of (exm_of ex_CN ic_CN ty_CN e_CT_CN) rfl)), exmAny_of (exm_of ex_CH ic_CH ty_CH e_CR_CH) (exmAny_of (exm_of ex_CM ic_CM ty_CM e_CR_CM) (exmAny_of (exm_of ex_CN ic_CN ty_CN e_CR_CN) rfl))⟩
  have hh := Hlp.mk D_start D_draw D_of D_mixed D_letters D_shuts D_oth D_wit D_pairs D_all D_rms D_fine D_hall D_img D_bys D_smt D_word D_ref D_ist D_chk D_sh D_sc D_tu D_ov D_bh D_bk D_ro D_ot D_stt (PySem.W.mg_none_of X G z_any) (PySem.W.mg_none_of X G z_str) (PySem.W.mg_none_of X G z_bool) (PySem.W.mg_none_of X G z_zip)
  refine ⟨_, [(c, PT)], spLawT K [(PT, lamN (.ref c))], fun p hp => ?_, fun p hp => ?_, fun p hp => ?_, fun s u => .of_eq rfl, fun H a ns hl hb hH hS => ⟨a, ns, rfl, hS, fun p hp => ?_, fun _ => rfl⟩, fun base KB GB TB => ok_law (k := 0) l_L c_L (TB _ (List.mem_cons_self ..)) ee zz mm yy ut tb xCT xCR (PySem.W.mg_of X G w_MOST_CALLS) T8 hh⟩
  · rw [List.mem_singleton.mp hp]
    exact hPT
  · rw [List.mem_singleton.mp hp]
    exact nPT
  · rw [List.mem_singleton.mp hp]
    exact PySem.W.codeHd_of_K X h_L
  · rw [List.mem_singleton.mp hp]
    exact LamX.TabS.nil (hH _ (List.mem_cons_self ..))
end NC
noncomputable section
namespace HC
open PySem PySem.W PySem.Calls PyProof.Rows HeadRun
def execsQ := PySem.W.Fast.tw12563942051412417395
theorem execsQ_eq : @PySem.execs = execsQ := PySem.W.Fast.te12563942051412417395
def blockQ := PySem.W.Fast.tw1066825118222455980
theorem blockQ_eq : @PySem.blockStart = blockQ := PySem.W.Fast.te1066825118222455980
section
variable (go : SharedT → Thread → Option (SharedT × Thread)) (lo : Nat) (an : Option Value)
/-- some statements, to their end -/
def goS : Nat → SharedT → Thread → Option (Flow × SharedT × Code × Pos)
  | 0, _, _ => none
  | m + 1, S, T => match endAt 1 T with
    | some x => some (x, S, T.code, T.pos)
    | none => match stepOk lo an T with
      | false => none
      | true => match go S T with
        | none => none
        | some (S', T') => frS S' fun S2 => goS m S2 T'
/-- so many steps of the top -/
def goG : Nat → SharedT → Thread → Option (SharedT × Thread)
  | 0, S, T => some (S, T)
  | m + 1, S, T => match through T with
    | true => none
    | false => match stepOk lo an T with
      | false => none
      | true => match go S T with
        | none => none
        | some (S', T') => frS S' fun S2 => goG m S2 T'
end
section
variable {tb : String → Option Builtin} {p : Program} {w : World} {lo : Nat} {an : Option Value}
theorem goS_ok : ∀ {m : Nat} {S S' : SharedT} {T : Thread} {x : Flow} {c : Code} {q : Pos}, goS (stepT (denote tb) p w) lo an m S T = some (x, S', c, q) → segRun tb p w lo an 1 m S.abs T = some (x, S'.abs, c, q)
  | 0, _, _, _, _, _, _, h => nomatch h
  | m + 1, S, S', T, x, c, q, h => by
    unfold goS at h
    unfold segRun
    cases h1 : endAt 1 T with
    | some y =>
      simp only [h1, Option.some.injEq, Prod.mk.injEq] at h ⊢
      obtain ⟨a, b, d, e⟩ := h
      exact ⟨a, by rw [b], d, e⟩
    | none =>
      cases h2 : stepOk lo an T with
      | false => simp [h1, h2] at h
      | true =>
        cases h3 : stepT (denote tb) p w S T with
        | none => simp [h1, h2, h3] at h
        | some r =>
          obtain ⟨S2, T2⟩ := r
          simp only [h1, h2, h3, frS_eq] at h
          simp only [stepT_spec h3]
          exact goS_ok h
theorem goG_ok : ∀ {m : Nat} {S S' : SharedT} {T T' : Thread}, goG (stepT (denote tb) p w) lo an m S T = some (S', T') → topGo tb p w lo an m S.abs T = some (S'.abs, T')
  | 0, S, S', T, T', h => by
    unfold goG at h
    simp only [Option.some.injEq, Prod.mk.injEq] at h
    obtain ⟨a, b⟩ := h
    rw [← a, ← b]
    rfl
  | m + 1, S, S', T, T', h => by
    unfold goG at h
    unfold topGo
    cases h1 : through T with
    | true => simp [h1] at h
    | false =>
      cases h2 : stepOk lo an T with
      | false => simp [h1, h2] at h
      | true =>
        cases h3 : stepT (denote tb) p w S T with
        | none => simp [h1, h2, h3] at h
        | some r =>
          obtain ⟨S2, T2⟩ := r
          simp only [h1, h2, h3, frS_eq] at h
          simp only [stepT_spec h3]
          exact goG_ok h
end
/-- the machine, by the twins -/
abbrev mq (p : Program) (w : World) : SharedT → Thread → Option (SharedT × Thread) := stepQ (denQ tabQ) p w
/-- a state by the list of its objects -/
def stL (w : World) (l : List Obj) (k : Nat) (os : OsState) : SharedT := match putAll l .nil 0 with
  | some (t, n) => ⟨t, n, (boot_heap w.params).life, #[], boot_drawn, k, os⟩
  | none => ⟨.nil, 0, (boot_heap w.params).life, #[], boot_drawn, k, os⟩
abbrev thS (l : List Stmt) (env : Env) (c : Code) (a : Pos) (q : Pos) : Thread := ⟨(execsQ l env).wrap doneF deadEnd id id, c, a, [topFrame q]⟩
abbrev thB (l : List Stmt) (env : Env) (c : Code) (a : Pos) (q : Pos) : Thread := ⟨(blockQ l env).wrap (fun _ => doneF .next) deadEnd id id, c, a, [topFrame q]⟩
section
variable {p : Program} {w : World} {lo : Nat} {an : Option Value} {env : Env} {q a a' : Pos} {c : Code} {m N : Nat} {S S' : SharedT} {l rest : List Stmt} {r : Shared}
theorem mq_eq : mq p w = stepT (denote treeTable) p w := by
  show stepQ (denQ tabQ) p w = _
  rw [← stepQ_eq, ← denQ_eq, ← tabQ_eq]
theorem run_seg (h : goS (mq p w) lo an m S (thS l env c a q) = some (.next, S', c, a')) (k : topRun treeTable p w lo an N S'.abs (restOf rest env c a' [topFrame q]) = some r) :
    topRun treeTable p w lo an (m + N) S.abs (restOf (l ++ rest) env c a [topFrame q]) = some r := by
  rw [mq_eq] at h
  unfold thS at h
  rw [← execsQ_eq] at h
  exact piece_app (goS_ok h) k
theorem run_end (h : goF (mq p w) lo an m S ⟨doneF .next, c, a, [topFrame q]⟩ = some S') : topRun treeTable p w lo an m S.abs (restOf [] env c a [topFrame q]) = some S'.abs := by
  rw [mq_eq] at h
  exact piece_nil (goF_ok h)
theorem run_top {m2 : Nat} {Sa Sb : SharedT} {ab : Pos} {b : List Stmt} (h0 : goG (mq p w) lo an m S (topStub p) = some (Sa, ⟨denQ tabQ (.body b env), .body b env, a, [topFrame q]⟩)) (h1 : goS (mq p w) lo an m2 Sa (thB b env (.body b env) a q) = some (.next, Sb, .body b env, ab))
    (k : topRun treeTable p w lo an N Sb.abs (restOf b env (.body b env) ab [topFrame q]) = some r) : topRun treeTable p w lo an (m + (m2 + N)) S.abs (topStub p) = some r := by
  rw [mq_eq] at h0 h1
  rw [← denQ_eq, ← tabQ_eq] at h0
  unfold thB at h1
  rw [← blockQ_eq] at h1
  exact go_top (goG_ok h0) (piece_block (goS_ok h1) k)
end
theorem boot_abs (w : World) (os : OsState) {t : PySem.W.BT} {n : Nat} (e : putAll (boot_heap w.params).objs.toList .nil 0 = some (t, n)) : (stL w (boot_heap w.params).objs.toList boot_toks os).abs = ⟨boot_heap w.params, #[], boot_drawn, boot_toks, os⟩ := by
  unfold stL
  rw [e]
  show (⟨absHeap t n (boot_heap w.params).life, #[], boot_drawn, boot_toks, os⟩ : Shared) = _
  rw [putAll_heap e]
end HC
namespace HC
open PySem PySem.W PySem.Calls PyProof.Rows HeadRun
def hpL (P : Params) (l : List Obj) : Heap := match putAll l .nil 0 with
  | some (t, n) => absHeap t n (boot_heap P).life
  | none => absHeap .nil 0 (boot_heap P).life
theorem stL_abs (w : World) (l : List Obj) (k : Nat) (os : OsState) : (stL w l k os).abs = ⟨hpL w.params l, #[], boot_drawn, k, os⟩ := by
  unfold stL hpL
  cases putAll l .nil 0 <;> rfl
/-- the row's equation from the runs -/
theorem left_cut {p q : Program} {loose : List PySem.Str} {Xt : Shared → Bool} {H : Hook} {ob : SharedT → H.α} {N M lo kF : Nat} {an : Option Value} {F : Params → List Obj} (ho : ∀ S : SharedT, ob S = H.obs S.abs)
    (e : opening p = plainProg p.main.scope.names) (hN : Nat.ble 600 N = true) (f : ∀ s, fenceModules? p s = some s) (le : Nat.ble M N = true)
    (size : ∀ w : World, ((boot_heap w.params).isNs mainGlobals && (#[] : Array GenState).size == 0, (boot_heap w.params).objs.size, (boot_heap w.params).nsMap mainGlobals "__annotations__") = (true, lo, an))
    (tre : ∀ w : World, (putAll (boot_heap w.params).objs.toList .nil 0).isSome = true)
    (run : ∀ (w : World) (os : OsState), topRun treeTable p w lo an M (stL w (boot_heap w.params).objs.toList boot_toks os).abs (topStub p) = some (stL w (F w.params) kF os).abs)
    (looks : ∀ (w : World) (os : OsState), (fun S : SharedT => (looksF p (boot_heap w.params) S.abs, seenQ q loose (importedModules p.main.body) Xt S.abs, ob S)) (stL w (F w.params) kF os) = (true, openGood q loose, H.val w)) :
    LeftO p q loose Xt H.obs H.val N true := by
  refine LeftO.of_pieces (H₀ := boot_heap) (H₁ := fun P => hpL P (F P)) (gs₀ := #[]) (gs₁ := #[]) (d₀ := boot_drawn) (d₁ := boot_drawn) (k₀ := boot_toks) (k₁ := kF) (boot_open e hN f) size (fun w os => ?_) le (fun w => ?_)
  · obtain ⟨⟨t, n⟩, ht⟩ := Option.isSome_iff_exists.mp (tre w)
    have z := run w os
    rw [boot_abs w os ht, stL_abs] at z
    exact z
  · funext os
    have z := looks w os
    obtain ⟨z1, z2, z3⟩ : _ ∧ _ ∧ _ := by simpa only [Prod.mk.injEq] using z
    have ab := stL_abs w (F w.params) kF os
    rw [← seenQ_eq, ab] at z2
    rw [ab] at z1
    rw [ho, ab] at z3
    exact Prod.ext z1 (Prod.ext z2 z3)
theorem obK {as : List Addr} (S : SharedT) : as.map (getT S) = as.map S.abs.heap.get? := List.map_congr_left fun a _ => getT_eq S a
end HC
end
set_option maxHeartbeats 0
noncomputable section
namespace HX
open PySem PySem.W PySem.Calls PyProof.Rows HeadRun HC L2
abbrev S := PySem.Str.ofString
abbrev V (l : List Value) : Array Value := l.toArray
abbrev W (l : List (Option Value)) : Array (Option Value) := l.toArray
abbrev D (l : List DictEntry) : Array DictEntry := l.toArray
abbrev E (P : Params) (x : PySem.Str) (k : Tok) (v : Value) : DictEntry := ⟨PyData.keyHash P x, .str x k, v⟩
abbrev pw : Program := PySem.Challenge.pw_nearcall_k18_turns_refused
abbrev rw_ : OpenLaw := PySem.Challenge.rw_nearcall_k18_turns_refused
abbrev ST (i : Nat) : Stmt := pw.main.body.getD i (.Pass ⟨0, 0, 0, 0⟩)
def lv : List (PySem.Str × WData) := []
def o0 (P : Params) : Obj := ⟨(.type "tuple"), none, (.seq (V []) 0), (W [])⟩
def o1 (P : Params) : Obj := ⟨.none, none, (.fields (V [])), (W [])⟩
def o2 (P : Params) : Obj := ⟨(.type "code"), none, (.fields (V [(.str (S "<module>") 182), (.str (S "<module>") 183), (.str (S "/claim/cut.py") 184), (.int 1 0), (.int 0 0), (.int 0 0), (.int 0 0), (.int 0 0), (.ref 11), (.bool false), (.int 181 0), (.ref 12), .none, .none, .none, .none, (.int 185 0), (.int 1 0), (.str (S "/claim/cut.py") 186)])), (W [])⟩
def o3 (P : Params) : Obj := ⟨(.type "frame"), none, .plain, (W [(some (.ref 13)), (some (.ref 3)), (some (.ref 3)), none, (some (.str (S "__main__") 164)), none, (some (.ref 0))])⟩
def objs_a (P : Params) : List Obj :=
  [boot_o_0 P, boot_o_1 P, boot_o_2 P, boot_o_3 P, boot_o_4 P, boot_o_5 P, boot_o_6 P, boot_o_7 P, boot_o_8 P, boot_o_9 P, boot_o_10 P, o0 P, o1 P, o2 P, o3 P]
def objs_b (P : Params) : List Obj :=
  [boot_o_0 P, boot_o_1 P, boot_o_2 P, boot_o_3 P, boot_o_4 P, boot_o_5 P, boot_o_6 P, boot_o_7 P, boot_o_8 P, boot_o_9 P, boot_o_10 P, o0 P, o1 P, o2 P, o3 P]
def o4 (P : Params) : Obj := ⟨(.type "dict"), none, (.dict (D [E P (S "__name__") 165 (.str (S "nearcall.errors") 194), E P (S "__doc__") 166 .none, E P (S "__package__") 167 .none, E P (S "__loader__") 168 (.builtin "__main__.__loader__#opaque"), E P (S "__spec__") 169 .none, E P (S "__annotations__") 170 (.ref 6), E P (S "__builtins__") 171 (.ref 4), E P (S "__file__") 173 (.str (S "/claim/cut.py") 172), E P (S "__cached__") 174 .none, E P (S "_wall") 193 (.ref 21), E P (S "HallError") 222 (.ref 38), E P (S "BadWalls") 245 (.ref 58), E P (S "BadBar") 270 (.ref 77), E P (S "BadSide") 293 (.ref 96)]) 14), (W [])⟩
def o5 (P : Params) : Obj := ⟨.none, none, (.fields (V [(.int 1 0), (.int 0 0), (.ref 20), (.int 5 0), (.int 0 0), (.ref 27), (.int 10 0), (.int 0 0), (.ref 47), (.int 14 0), (.int 0 0), (.ref 66), (.int 19 0), (.int 0 0), (.ref 85)])), (W [])⟩
def o6 (P : Params) : Obj := ⟨(.type "tuple"), none, (.seq (V []) 0), (W [])⟩
def o7 (P : Params) : Obj := ⟨.none, none, (.fields (V [])), (W [])⟩
def o8 (P : Params) : Obj := ⟨(.type "tuple"), none, (.seq (V [(.str (S "k") 190)]) 0), (W [])⟩
def o9 (P : Params) : Obj := ⟨(.type "tuple"), none, (.seq (V []) 0), (W [])⟩
def o10 (P : Params) : Obj := ⟨.none, none, (.func ⟨(S "_wall"), (S "_wall"), (defArgs (ST 0)), (.stmts (defBody (ST 0))), (defScope (ST 0)), 0, [], .none, .none, .none, .none, none, .none, .none, 0⟩), (W [])⟩
def o11 (P : Params) : Obj := ⟨(.type "code"), none, (.fields (V [(.str (S "_wall") 187), (.str (S "_wall") 188), (.str (S "/claim/cut.py") 189), (.int 1 0), (.int 1 0), (.int 0 0), (.int 0 0), (.int 3 0), (.ref 15), (.bool true), (.int 181 0), (.ref 16), .none, (.ref 17), (.ref 18), (.ref 19), (.int 191 0), (.int 1 0), (.str (S "/claim/cut.py") 192)])), (W [])⟩
def o12 (P : Params) : Obj := ⟨(.type "function"), none, (.func ⟨(S "_wall"), (S "_wall"), (defArgs (ST 0)), (.stmts (defBody (ST 0))), (defScope (ST 0)), 3, [], .none, .none, .none, (.str (S "__main__") 164), none, (.ref 20), .none, 0⟩), (W [])⟩
def o13 (P : Params) : Obj := ⟨(.type "tuple"), none, (.seq (V [(.type "ValueError")]) 0), (W [])⟩
def o14 (P : Params) : Obj := ⟨(.type "builtin_function_or_method"), none, (.fields (V [(.builtin "type.__prepare__"), (.type "type")])), (W [])⟩
def o15 (P : Params) : Obj := ⟨(.type "dict"), none, (.dict (D [E P (S "__module__") 203 (.str (S "nearcall.errors") 194), E P (S "__qualname__") 205 (.str (S "HallError") 204), E P (S "__firstlineno__") 207 (.int 5 206), E P (S "__init__") 215 (.ref 35), E P (S "__static_attributes__") 217 (.ref 36)]) 5), (W [])⟩
def o16 (P : Params) : Obj := ⟨(.type "tuple"), none, (.seq (V []) 0), (W [])⟩
def o17 (P : Params) : Obj := ⟨.none, none, (.fields (V [(.int 7 0), (.int 4 0), (.ref 34)])), (W [])⟩
def o18 (P : Params) : Obj := ⟨(.type "code"), none, (.fields (V [(.str (S "HallError") 198), (.str (S "HallError") 199), (.str (S "/claim/cut.py") 200), (.int 5 0), (.int 0 0), (.int 0 0), (.int 0 0), (.int 0 0), (.ref 25), (.bool false), (.int 181 0), (.ref 26), .none, .none, .none, .none, (.int 201 0), (.int 5 0), (.str (S "/claim/cut.py") 202)])), (W [])⟩
def o19 (P : Params) : Obj := ⟨(.type "frame"), none, .plain, (W [(some (.ref 27)), (some (.ref 3)), (some (.ref 24)), none, (some (.str (S "nearcall.errors") 194)), none, (some (.ref 0))])⟩
def o20 (P : Params) : Obj := ⟨(.type "tuple"), none, (.seq (V []) 0), (W [])⟩
def o21 (P : Params) : Obj := ⟨.none, none, (.fields (V [])), (W [])⟩
def o22 (P : Params) : Obj := ⟨(.type "tuple"), none, (.seq (V [(.str (S "self") 211), (.str (S "word") 212)]) 0), (W [])⟩
def o23 (P : Params) : Obj := ⟨(.type "tuple"), none, (.seq (V []) 0), (W [])⟩
def o24 (P : Params) : Obj := ⟨.none, none, (.func ⟨(S "__init__"), (S "HallError.__init__"), (defArgs (inClass (ST 2) 0)), (.stmts (defBody (inClass (ST 2) 0))), (defScope (inClass (ST 2) 0)), 0, [], .none, .none, .none, .none, none, .none, .none, 0⟩), (W [])⟩
def o25 (P : Params) : Obj := ⟨(.type "code"), none, (.fields (V [(.str (S "__init__") 208), (.str (S "HallError.__init__") 209), (.str (S "/claim/cut.py") 210), (.int 7 0), (.int 2 0), (.int 0 0), (.int 0 0), (.int 3 0), (.ref 29), (.bool true), (.int 181 0), (.ref 30), .none, (.ref 31), (.ref 32), (.ref 33), (.int 213 0), (.int 7 0), (.str (S "/claim/cut.py") 214)])), (W [])⟩
def o26 (P : Params) : Obj := ⟨(.type "function"), none, (.func ⟨(S "__init__"), (S "HallError.__init__"), (defArgs (inClass (ST 2) 0)), (.stmts (defBody (inClass (ST 2) 0))), (defScope (inClass (ST 2) 0)), 3, [], .none, .none, .none, (.str (S "nearcall.errors") 194), none, (.ref 34), .none, 0⟩), (W [])⟩
def o27 (P : Params) : Obj := ⟨(.type "tuple"), none, (.seq (V [(.str (S "word") 216)]) 0), (W [])⟩
def o28 (P : Params) : Obj := ⟨(.type "dict"), none, (.dict (D [E P (S "__module__") 203 (.str (S "nearcall.errors") 194), E P (S "__firstlineno__") 207 (.int 5 206), E P (S "__init__") 215 (.ref 35), E P (S "__static_attributes__") 217 (.ref 36), E P (S "__weakref__") 219 (.ref 39), E P (S "__doc__") 220 .none]) 3), (W [])⟩
def o29 (P : Params) : Obj := ⟨(.type "type"), none, (.cls ⟨(S "HallError"), [(.type "ValueError")], [(.ref 38), (.type "ValueError"), (.type "Exception"), (.type "BaseException"), (.type "object")], 37, (S "HallError"), true, [], [(.ref 58), (.ref 77), (.ref 96)], false, none, false⟩), (W [(some (.ref 22)), none, (some (.str (S "HallError") 196)), (some (.str (S "HallError") 204)), (some (.builtin "ValueError.__new__")), (some (.bool true))])⟩
def o30 (P : Params) : Obj := ⟨(.type "getset_descriptor"), none, (.fields (V [(.str (S "__weakref__") 218), (.ref 38), (.builtin "ExceptionGroup.__weakref__"), .none])), (W [])⟩
def o31 (P : Params) : Obj := ⟨(.type "super"), none, (.fields (V [(.ref 38), (.ref 38), (.ref 38)])), (W [])⟩
def o32 (P : Params) : Obj := ⟨(.type "builtin_function_or_method"), none, (.fields (V [(.builtin "object.__init_subclass__"), (.ref 38)])), (W [])⟩
def o33 (P : Params) : Obj := ⟨(.type "tuple"), none, (.seq (V [(.ref 38)]) 0), (W [])⟩
def o34 (P : Params) : Obj := ⟨(.type "builtin_function_or_method"), none, (.fields (V [(.builtin "type.__prepare__"), (.type "type")])), (W [])⟩
def o35 (P : Params) : Obj := ⟨(.type "dict"), none, (.dict (D [E P (S "__module__") 230 (.str (S "nearcall.errors") 194), E P (S "__qualname__") 232 (.str (S "BadWalls") 231), E P (S "__firstlineno__") 234 (.int 10 233), E P (S "__init__") 241 (.ref 55), E P (S "__static_attributes__") 242 (.ref 56)]) 5), (W [])⟩
def o36 (P : Params) : Obj := ⟨(.type "tuple"), none, (.seq (V []) 0), (W [])⟩
def o37 (P : Params) : Obj := ⟨.none, none, (.fields (V [(.int 12 0), (.int 4 0), (.ref 54)])), (W [])⟩
def o38 (P : Params) : Obj := ⟨(.type "code"), none, (.fields (V [(.str (S "BadWalls") 225), (.str (S "BadWalls") 226), (.str (S "/claim/cut.py") 227), (.int 10 0), (.int 0 0), (.int 0 0), (.int 0 0), (.int 0 0), (.ref 45), (.bool false), (.int 181 0), (.ref 46), .none, .none, .none, .none, (.int 228 0), (.int 10 0), (.str (S "/claim/cut.py") 229)])), (W [])⟩
def o39 (P : Params) : Obj := ⟨(.type "frame"), none, .plain, (W [(some (.ref 47)), (some (.ref 3)), (some (.ref 44)), none, (some (.str (S "nearcall.errors") 194)), none, (some (.ref 0))])⟩
def o40 (P : Params) : Obj := ⟨(.type "tuple"), none, (.seq (V []) 0), (W [])⟩
def o41 (P : Params) : Obj := ⟨.none, none, (.fields (V [])), (W [])⟩
def o42 (P : Params) : Obj := ⟨(.type "tuple"), none, (.seq (V [(.str (S "self") 238)]) 0), (W [])⟩
def o43 (P : Params) : Obj := ⟨(.type "tuple"), none, (.seq (V []) 0), (W [])⟩
def o44 (P : Params) : Obj := ⟨.none, none, (.func ⟨(S "__init__"), (S "BadWalls.__init__"), (defArgs (inClass (ST 3) 0)), (.stmts (defBody (inClass (ST 3) 0))), (defScope (inClass (ST 3) 0)), 0, [], .none, .none, .none, .none, none, .none, .none, 0⟩), (W [])⟩
def o45 (P : Params) : Obj := ⟨(.type "code"), none, (.fields (V [(.str (S "__init__") 235), (.str (S "BadWalls.__init__") 236), (.str (S "/claim/cut.py") 237), (.int 12 0), (.int 1 0), (.int 0 0), (.int 0 0), (.int 3 0), (.ref 49), (.bool true), (.int 181 0), (.ref 50), .none, (.ref 51), (.ref 52), (.ref 53), (.int 239 0), (.int 12 0), (.str (S "/claim/cut.py") 240)])), (W [])⟩
def o46 (P : Params) : Obj := ⟨(.type "function"), none, (.func ⟨(S "__init__"), (S "BadWalls.__init__"), (defArgs (inClass (ST 3) 0)), (.stmts (defBody (inClass (ST 3) 0))), (defScope (inClass (ST 3) 0)), 3, [], .none, .none, .none, (.str (S "nearcall.errors") 194), none, (.ref 54), .none, 0⟩), (W [])⟩
def o47 (P : Params) : Obj := ⟨(.type "tuple"), none, (.seq (V []) 0), (W [])⟩
def o48 (P : Params) : Obj := ⟨(.type "dict"), none, (.dict (D [E P (S "__module__") 230 (.str (S "nearcall.errors") 194), E P (S "__firstlineno__") 234 (.int 10 233), E P (S "__init__") 241 (.ref 55), E P (S "__static_attributes__") 242 (.ref 56), E P (S "__doc__") 243 .none]) 2), (W [])⟩
def o49 (P : Params) : Obj := ⟨(.type "type"), none, (.cls ⟨(S "BadWalls"), [(.ref 38)], [(.ref 58), (.ref 38), (.type "ValueError"), (.type "Exception"), (.type "BaseException"), (.type "object")], 57, (S "BadWalls"), true, [], [], false, none, false⟩), (W [(some (.ref 42)), none, (some (.str (S "BadWalls") 223)), (some (.str (S "BadWalls") 231)), (some (.builtin "ValueError.__new__")), (some (.bool true))])⟩
def o50 (P : Params) : Obj := ⟨(.type "super"), none, (.fields (V [(.ref 58), (.ref 58), (.ref 58)])), (W [])⟩
def o51 (P : Params) : Obj := ⟨(.type "builtin_function_or_method"), none, (.fields (V [(.builtin "object.__init_subclass__"), (.ref 58)])), (W [])⟩
def o52 (P : Params) : Obj := ⟨(.type "tuple"), none, (.seq (V [(.ref 38)]) 0), (W [])⟩
def o53 (P : Params) : Obj := ⟨(.type "builtin_function_or_method"), none, (.fields (V [(.builtin "type.__prepare__"), (.type "type")])), (W [])⟩
def o54 (P : Params) : Obj := ⟨(.type "dict"), none, (.dict (D [E P (S "__module__") 253 (.str (S "nearcall.errors") 194), E P (S "__qualname__") 255 (.str (S "BadBar") 254), E P (S "__firstlineno__") 257 (.int 14 256), E P (S "__init__") 265 (.ref 74), E P (S "__static_attributes__") 267 (.ref 75)]) 5), (W [])⟩
def o55 (P : Params) : Obj := ⟨(.type "tuple"), none, (.seq (V []) 0), (W [])⟩
def o56 (P : Params) : Obj := ⟨.none, none, (.fields (V [(.int 16 0), (.int 4 0), (.ref 73)])), (W [])⟩
def o57 (P : Params) : Obj := ⟨(.type "code"), none, (.fields (V [(.str (S "BadBar") 248), (.str (S "BadBar") 249), (.str (S "/claim/cut.py") 250), (.int 14 0), (.int 0 0), (.int 0 0), (.int 0 0), (.int 0 0), (.ref 64), (.bool false), (.int 181 0), (.ref 65), .none, .none, .none, .none, (.int 251 0), (.int 14 0), (.str (S "/claim/cut.py") 252)])), (W [])⟩
def o58 (P : Params) : Obj := ⟨(.type "frame"), none, .plain, (W [(some (.ref 66)), (some (.ref 3)), (some (.ref 63)), none, (some (.str (S "nearcall.errors") 194)), none, (some (.ref 0))])⟩
def o59 (P : Params) : Obj := ⟨(.type "tuple"), none, (.seq (V []) 0), (W [])⟩
def o60 (P : Params) : Obj := ⟨.none, none, (.fields (V [])), (W [])⟩
def o61 (P : Params) : Obj := ⟨(.type "tuple"), none, (.seq (V [(.str (S "self") 261), (.str (S "at") 262)]) 0), (W [])⟩
def o62 (P : Params) : Obj := ⟨(.type "tuple"), none, (.seq (V []) 0), (W [])⟩
def o63 (P : Params) : Obj := ⟨.none, none, (.func ⟨(S "__init__"), (S "BadBar.__init__"), (defArgs (inClass (ST 4) 0)), (.stmts (defBody (inClass (ST 4) 0))), (defScope (inClass (ST 4) 0)), 0, [], .none, .none, .none, .none, none, .none, .none, 0⟩), (W [])⟩
def o64 (P : Params) : Obj := ⟨(.type "code"), none, (.fields (V [(.str (S "__init__") 258), (.str (S "BadBar.__init__") 259), (.str (S "/claim/cut.py") 260), (.int 16 0), (.int 2 0), (.int 0 0), (.int 0 0), (.int 3 0), (.ref 68), (.bool true), (.int 181 0), (.ref 69), .none, (.ref 70), (.ref 71), (.ref 72), (.int 263 0), (.int 16 0), (.str (S "/claim/cut.py") 264)])), (W [])⟩
def o65 (P : Params) : Obj := ⟨(.type "function"), none, (.func ⟨(S "__init__"), (S "BadBar.__init__"), (defArgs (inClass (ST 4) 0)), (.stmts (defBody (inClass (ST 4) 0))), (defScope (inClass (ST 4) 0)), 3, [], .none, .none, .none, (.str (S "nearcall.errors") 194), none, (.ref 73), .none, 0⟩), (W [])⟩
def o66 (P : Params) : Obj := ⟨(.type "tuple"), none, (.seq (V [(.str (S "at") 266)]) 0), (W [])⟩
def o67 (P : Params) : Obj := ⟨(.type "dict"), none, (.dict (D [E P (S "__module__") 253 (.str (S "nearcall.errors") 194), E P (S "__firstlineno__") 257 (.int 14 256), E P (S "__init__") 265 (.ref 74), E P (S "__static_attributes__") 267 (.ref 75), E P (S "__doc__") 268 .none]) 2), (W [])⟩
def o68 (P : Params) : Obj := ⟨(.type "type"), none, (.cls ⟨(S "BadBar"), [(.ref 38)], [(.ref 77), (.ref 38), (.type "ValueError"), (.type "Exception"), (.type "BaseException"), (.type "object")], 76, (S "BadBar"), true, [], [], false, none, false⟩), (W [(some (.ref 61)), none, (some (.str (S "BadBar") 246)), (some (.str (S "BadBar") 254)), (some (.builtin "ValueError.__new__")), (some (.bool true))])⟩
def o69 (P : Params) : Obj := ⟨(.type "super"), none, (.fields (V [(.ref 77), (.ref 77), (.ref 77)])), (W [])⟩
def o70 (P : Params) : Obj := ⟨(.type "builtin_function_or_method"), none, (.fields (V [(.builtin "object.__init_subclass__"), (.ref 77)])), (W [])⟩
def o71 (P : Params) : Obj := ⟨(.type "tuple"), none, (.seq (V [(.ref 38)]) 0), (W [])⟩
def o72 (P : Params) : Obj := ⟨(.type "builtin_function_or_method"), none, (.fields (V [(.builtin "type.__prepare__"), (.type "type")])), (W [])⟩
def o73 (P : Params) : Obj := ⟨(.type "dict"), none, (.dict (D [E P (S "__module__") 278 (.str (S "nearcall.errors") 194), E P (S "__qualname__") 280 (.str (S "BadSide") 279), E P (S "__firstlineno__") 282 (.int 19 281), E P (S "__init__") 289 (.ref 93), E P (S "__static_attributes__") 290 (.ref 94)]) 5), (W [])⟩
def o74 (P : Params) : Obj := ⟨(.type "tuple"), none, (.seq (V []) 0), (W [])⟩
def o75 (P : Params) : Obj := ⟨.none, none, (.fields (V [(.int 21 0), (.int 4 0), (.ref 92)])), (W [])⟩
def o76 (P : Params) : Obj := ⟨(.type "code"), none, (.fields (V [(.str (S "BadSide") 273), (.str (S "BadSide") 274), (.str (S "/claim/cut.py") 275), (.int 19 0), (.int 0 0), (.int 0 0), (.int 0 0), (.int 0 0), (.ref 83), (.bool false), (.int 181 0), (.ref 84), .none, .none, .none, .none, (.int 276 0), (.int 19 0), (.str (S "/claim/cut.py") 277)])), (W [])⟩
def o77 (P : Params) : Obj := ⟨(.type "frame"), none, .plain, (W [(some (.ref 85)), (some (.ref 3)), (some (.ref 82)), none, (some (.str (S "nearcall.errors") 194)), none, (some (.ref 0))])⟩
def o78 (P : Params) : Obj := ⟨(.type "tuple"), none, (.seq (V []) 0), (W [])⟩
def o79 (P : Params) : Obj := ⟨.none, none, (.fields (V [])), (W [])⟩
def o80 (P : Params) : Obj := ⟨(.type "tuple"), none, (.seq (V [(.str (S "self") 286)]) 0), (W [])⟩
def o81 (P : Params) : Obj := ⟨(.type "tuple"), none, (.seq (V []) 0), (W [])⟩
def o82 (P : Params) : Obj := ⟨.none, none, (.func ⟨(S "__init__"), (S "BadSide.__init__"), (defArgs (inClass (ST 5) 0)), (.stmts (defBody (inClass (ST 5) 0))), (defScope (inClass (ST 3) 0)), 0, [], .none, .none, .none, .none, none, .none, .none, 0⟩), (W [])⟩
def o83 (P : Params) : Obj := ⟨(.type "code"), none, (.fields (V [(.str (S "__init__") 283), (.str (S "BadSide.__init__") 284), (.str (S "/claim/cut.py") 285), (.int 21 0), (.int 1 0), (.int 0 0), (.int 0 0), (.int 3 0), (.ref 87), (.bool true), (.int 181 0), (.ref 88), .none, (.ref 89), (.ref 90), (.ref 91), (.int 287 0), (.int 21 0), (.str (S "/claim/cut.py") 288)])), (W [])⟩
def o84 (P : Params) : Obj := ⟨(.type "function"), none, (.func ⟨(S "__init__"), (S "BadSide.__init__"), (defArgs (inClass (ST 5) 0)), (.stmts (defBody (inClass (ST 5) 0))), (defScope (inClass (ST 3) 0)), 3, [], .none, .none, .none, (.str (S "nearcall.errors") 194), none, (.ref 92), .none, 0⟩), (W [])⟩
def o85 (P : Params) : Obj := ⟨(.type "tuple"), none, (.seq (V []) 0), (W [])⟩
def o86 (P : Params) : Obj := ⟨(.type "dict"), none, (.dict (D [E P (S "__module__") 278 (.str (S "nearcall.errors") 194), E P (S "__firstlineno__") 282 (.int 19 281), E P (S "__init__") 289 (.ref 93), E P (S "__static_attributes__") 290 (.ref 94), E P (S "__doc__") 291 .none]) 2), (W [])⟩
def o87 (P : Params) : Obj := ⟨(.type "type"), none, (.cls ⟨(S "BadSide"), [(.ref 38)], [(.ref 96), (.ref 38), (.type "ValueError"), (.type "Exception"), (.type "BaseException"), (.type "object")], 95, (S "BadSide"), true, [], [], false, none, false⟩), (W [(some (.ref 80)), none, (some (.str (S "BadSide") 271)), (some (.str (S "BadSide") 279)), (some (.builtin "ValueError.__new__")), (some (.bool true))])⟩
def o88 (P : Params) : Obj := ⟨(.type "super"), none, (.fields (V [(.ref 96), (.ref 96), (.ref 96)])), (W [])⟩
def o89 (P : Params) : Obj := ⟨(.type "builtin_function_or_method"), none, (.fields (V [(.builtin "object.__init_subclass__"), (.ref 96)])), (W [])⟩
def objs_0 (P : Params) : List Obj :=
  [boot_o_0 P, boot_o_1 P, boot_o_2 P, o4 P, boot_o_4 P, boot_o_5 P, boot_o_6 P, boot_o_7 P, boot_o_8 P, boot_o_9 P, boot_o_10 P, o0 P, o5 P, o2 P, o3 P, o6 P, o7 P, o8 P, o9 P, o10 P, o11 P, o12 P, o13 P, o14 P, o15 P, o16 P, o17 P, o18 P, o19 P, o20 P, o21 P, o22 P, o23 P, o24 P, o25 P, o26 P, o27 P, o28 P, o29 P, o30 P] ++ (
  [o31 P, o32 P, o33 P, o34 P, o35 P, o36 P, o37 P, o38 P, o39 P, o40 P, o41 P, o42 P, o43 P, o44 P, o45 P, o46 P, o47 P, o48 P, o49 P, o50 P, o51 P, o52 P, o53 P, o54 P, o55 P, o56 P, o57 P, o58 P, o59 P, o60 P, o61 P, o62 P, o63 P, o64 P, o65 P, o66 P, o67 P, o68 P, o69 P, o70 P] ++ (
  [o71 P, o72 P, o73 P, o74 P, o75 P, o76 P, o77 P, o78 P, o79 P, o80 P, o81 P, o82 P, o83 P, o84 P, o85 P, o86 P, o87 P, o88 P, o89 P]))
def o90 (P : Params) : Obj := ⟨(.type "dict"), none, (.dict (D [E P (S "__name__") 165 (.str (S "nearcall.errors") 194), E P (S "__doc__") 166 .none, E P (S "__package__") 167 .none, E P (S "__loader__") 168 (.builtin "__main__.__loader__#opaque"), E P (S "__spec__") 169 .none, E P (S "__annotations__") 170 (.ref 6), E P (S "__builtins__") 171 (.ref 4), E P (S "__file__") 173 (.str (S "/claim/cut.py") 172), E P (S "__cached__") 174 .none, E P (S "_wall") 193 (.ref 21), E P (S "HallError") 222 (.ref 38), E P (S "BadWalls") 245 (.ref 58), E P (S "BadBar") 270 (.ref 77), E P (S "BadSide") 293 (.ref 96), E P (S "Fixed") 318 (.ref 115), E P (S "Alike") 345 (.ref 134), E P (S "BadRoom") 368 (.ref 153), E P (S "BadPart") 391 (.ref 172)]) 18), (W [])⟩
def o91 (P : Params) : Obj := ⟨.none, none, (.fields (V [(.int 1 0), (.int 0 0), (.ref 20), (.int 5 0), (.int 0 0), (.ref 27), (.int 10 0), (.int 0 0), (.ref 47), (.int 14 0), (.int 0 0), (.ref 66), (.int 19 0), (.int 0 0), (.ref 85), (.int 23 0), (.int 0 0), (.ref 104), (.int 28 0), (.int 0 0), (.ref 123), (.int 34 0), (.int 0 0), (.ref 142), (.int 38 0), (.int 0 0), (.ref 161)])), (W [])⟩
def o92 (P : Params) : Obj := ⟨(.type "type"), none, (.cls ⟨(S "HallError"), [(.type "ValueError")], [(.ref 38), (.type "ValueError"), (.type "Exception"), (.type "BaseException"), (.type "object")], 37, (S "HallError"), true, [], [(.ref 58), (.ref 77), (.ref 96), (.ref 115), (.ref 134), (.ref 153), (.ref 172)], false, none, false⟩), (W [(some (.ref 22)), none, (some (.str (S "HallError") 196)), (some (.str (S "HallError") 204)), (some (.builtin "ValueError.__new__")), (some (.bool true))])⟩
def o93 (P : Params) : Obj := ⟨(.type "tuple"), none, (.seq (V [(.ref 38)]) 0), (W [])⟩
def o94 (P : Params) : Obj := ⟨(.type "builtin_function_or_method"), none, (.fields (V [(.builtin "type.__prepare__"), (.type "type")])), (W [])⟩
def o95 (P : Params) : Obj := ⟨(.type "dict"), none, (.dict (D [E P (S "__module__") 301 (.str (S "nearcall.errors") 194), E P (S "__qualname__") 303 (.str (S "Fixed") 302), E P (S "__firstlineno__") 305 (.int 23 304), E P (S "__init__") 313 (.ref 112), E P (S "__static_attributes__") 315 (.ref 113)]) 5), (W [])⟩
def o96 (P : Params) : Obj := ⟨(.type "tuple"), none, (.seq (V []) 0), (W [])⟩
def o97 (P : Params) : Obj := ⟨.none, none, (.fields (V [(.int 25 0), (.int 4 0), (.ref 111)])), (W [])⟩
def o98 (P : Params) : Obj := ⟨(.type "code"), none, (.fields (V [(.str (S "Fixed") 296), (.str (S "Fixed") 297), (.str (S "/claim/cut.py") 298), (.int 23 0), (.int 0 0), (.int 0 0), (.int 0 0), (.int 0 0), (.ref 102), (.bool false), (.int 181 0), (.ref 103), .none, .none, .none, .none, (.int 299 0), (.int 23 0), (.str (S "/claim/cut.py") 300)])), (W [])⟩
def o99 (P : Params) : Obj := ⟨(.type "frame"), none, .plain, (W [(some (.ref 104)), (some (.ref 3)), (some (.ref 101)), none, (some (.str (S "nearcall.errors") 194)), none, (some (.ref 0))])⟩
def o100 (P : Params) : Obj := ⟨(.type "tuple"), none, (.seq (V []) 0), (W [])⟩
def o101 (P : Params) : Obj := ⟨.none, none, (.fields (V [])), (W [])⟩
def o102 (P : Params) : Obj := ⟨(.type "tuple"), none, (.seq (V [(.str (S "self") 309), (.str (S "side") 310)]) 0), (W [])⟩
def o103 (P : Params) : Obj := ⟨(.type "tuple"), none, (.seq (V []) 0), (W [])⟩
def o104 (P : Params) : Obj := ⟨.none, none, (.func ⟨(S "__init__"), (S "Fixed.__init__"), (defArgs (inClass (ST 6) 0)), (.stmts (defBody (inClass (ST 6) 0))), (defScope (inClass (ST 6) 0)), 0, [], .none, .none, .none, .none, none, .none, .none, 0⟩), (W [])⟩
def o105 (P : Params) : Obj := ⟨(.type "code"), none, (.fields (V [(.str (S "__init__") 306), (.str (S "Fixed.__init__") 307), (.str (S "/claim/cut.py") 308), (.int 25 0), (.int 2 0), (.int 0 0), (.int 0 0), (.int 3 0), (.ref 106), (.bool true), (.int 181 0), (.ref 107), .none, (.ref 108), (.ref 109), (.ref 110), (.int 311 0), (.int 25 0), (.str (S "/claim/cut.py") 312)])), (W [])⟩
def o106 (P : Params) : Obj := ⟨(.type "function"), none, (.func ⟨(S "__init__"), (S "Fixed.__init__"), (defArgs (inClass (ST 6) 0)), (.stmts (defBody (inClass (ST 6) 0))), (defScope (inClass (ST 6) 0)), 3, [], .none, .none, .none, (.str (S "nearcall.errors") 194), none, (.ref 111), .none, 0⟩), (W [])⟩
def o107 (P : Params) : Obj := ⟨(.type "tuple"), none, (.seq (V [(.str (S "side") 314)]) 0), (W [])⟩
def o108 (P : Params) : Obj := ⟨(.type "dict"), none, (.dict (D [E P (S "__module__") 301 (.str (S "nearcall.errors") 194), E P (S "__firstlineno__") 305 (.int 23 304), E P (S "__init__") 313 (.ref 112), E P (S "__static_attributes__") 315 (.ref 113), E P (S "__doc__") 316 .none]) 2), (W [])⟩
def o109 (P : Params) : Obj := ⟨(.type "type"), none, (.cls ⟨(S "Fixed"), [(.ref 38)], [(.ref 115), (.ref 38), (.type "ValueError"), (.type "Exception"), (.type "BaseException"), (.type "object")], 114, (S "Fixed"), true, [], [], false, none, false⟩), (W [(some (.ref 99)), none, (some (.str (S "Fixed") 294)), (some (.str (S "Fixed") 302)), (some (.builtin "ValueError.__new__")), (some (.bool true))])⟩
def o110 (P : Params) : Obj := ⟨(.type "super"), none, (.fields (V [(.ref 115), (.ref 115), (.ref 115)])), (W [])⟩
def o111 (P : Params) : Obj := ⟨(.type "builtin_function_or_method"), none, (.fields (V [(.builtin "object.__init_subclass__"), (.ref 115)])), (W [])⟩
def o112 (P : Params) : Obj := ⟨(.type "tuple"), none, (.seq (V [(.ref 38)]) 0), (W [])⟩
def o113 (P : Params) : Obj := ⟨(.type "builtin_function_or_method"), none, (.fields (V [(.builtin "type.__prepare__"), (.type "type")])), (W [])⟩
def o114 (P : Params) : Obj := ⟨(.type "dict"), none, (.dict (D [E P (S "__module__") 326 (.str (S "nearcall.errors") 194), E P (S "__qualname__") 328 (.str (S "Alike") 327), E P (S "__firstlineno__") 330 (.int 28 329), E P (S "__init__") 339 (.ref 131), E P (S "__static_attributes__") 342 (.ref 132)]) 5), (W [])⟩
def o115 (P : Params) : Obj := ⟨(.type "tuple"), none, (.seq (V []) 0), (W [])⟩
def o116 (P : Params) : Obj := ⟨.none, none, (.fields (V [(.int 30 0), (.int 4 0), (.ref 130)])), (W [])⟩
def o117 (P : Params) : Obj := ⟨(.type "code"), none, (.fields (V [(.str (S "Alike") 321), (.str (S "Alike") 322), (.str (S "/claim/cut.py") 323), (.int 28 0), (.int 0 0), (.int 0 0), (.int 0 0), (.int 0 0), (.ref 121), (.bool false), (.int 181 0), (.ref 122), .none, .none, .none, .none, (.int 324 0), (.int 28 0), (.str (S "/claim/cut.py") 325)])), (W [])⟩
def o118 (P : Params) : Obj := ⟨(.type "frame"), none, .plain, (W [(some (.ref 123)), (some (.ref 3)), (some (.ref 120)), none, (some (.str (S "nearcall.errors") 194)), none, (some (.ref 0))])⟩
def o119 (P : Params) : Obj := ⟨(.type "tuple"), none, (.seq (V []) 0), (W [])⟩
def o120 (P : Params) : Obj := ⟨.none, none, (.fields (V [])), (W [])⟩
def o121 (P : Params) : Obj := ⟨(.type "tuple"), none, (.seq (V [(.str (S "self") 334), (.str (S "one") 335), (.str (S "other") 336)]) 0), (W [])⟩
def o122 (P : Params) : Obj := ⟨(.type "tuple"), none, (.seq (V []) 0), (W [])⟩
def o123 (P : Params) : Obj := ⟨.none, none, (.func ⟨(S "__init__"), (S "Alike.__init__"), (defArgs (inClass (ST 7) 0)), (.stmts (defBody (inClass (ST 7) 0))), (defScope (inClass (ST 7) 0)), 0, [], .none, .none, .none, .none, none, .none, .none, 0⟩), (W [])⟩
def o124 (P : Params) : Obj := ⟨(.type "code"), none, (.fields (V [(.str (S "__init__") 331), (.str (S "Alike.__init__") 332), (.str (S "/claim/cut.py") 333), (.int 30 0), (.int 3 0), (.int 0 0), (.int 0 0), (.int 3 0), (.ref 125), (.bool true), (.int 181 0), (.ref 126), .none, (.ref 127), (.ref 128), (.ref 129), (.int 337 0), (.int 30 0), (.str (S "/claim/cut.py") 338)])), (W [])⟩
def o125 (P : Params) : Obj := ⟨(.type "function"), none, (.func ⟨(S "__init__"), (S "Alike.__init__"), (defArgs (inClass (ST 7) 0)), (.stmts (defBody (inClass (ST 7) 0))), (defScope (inClass (ST 7) 0)), 3, [], .none, .none, .none, (.str (S "nearcall.errors") 194), none, (.ref 130), .none, 0⟩), (W [])⟩
def o126 (P : Params) : Obj := ⟨(.type "tuple"), none, (.seq (V [(.str (S "one") 340), (.str (S "other") 341)]) 0), (W [])⟩
def o127 (P : Params) : Obj := ⟨(.type "dict"), none, (.dict (D [E P (S "__module__") 326 (.str (S "nearcall.errors") 194), E P (S "__firstlineno__") 330 (.int 28 329), E P (S "__init__") 339 (.ref 131), E P (S "__static_attributes__") 342 (.ref 132), E P (S "__doc__") 343 .none]) 2), (W [])⟩
def o128 (P : Params) : Obj := ⟨(.type "type"), none, (.cls ⟨(S "Alike"), [(.ref 38)], [(.ref 134), (.ref 38), (.type "ValueError"), (.type "Exception"), (.type "BaseException"), (.type "object")], 133, (S "Alike"), true, [], [], false, none, false⟩), (W [(some (.ref 118)), none, (some (.str (S "Alike") 319)), (some (.str (S "Alike") 327)), (some (.builtin "ValueError.__new__")), (some (.bool true))])⟩
def o129 (P : Params) : Obj := ⟨(.type "super"), none, (.fields (V [(.ref 134), (.ref 134), (.ref 134)])), (W [])⟩
def o130 (P : Params) : Obj := ⟨(.type "builtin_function_or_method"), none, (.fields (V [(.builtin "object.__init_subclass__"), (.ref 134)])), (W [])⟩
def o131 (P : Params) : Obj := ⟨(.type "tuple"), none, (.seq (V [(.ref 38)]) 0), (W [])⟩
def o132 (P : Params) : Obj := ⟨(.type "builtin_function_or_method"), none, (.fields (V [(.builtin "type.__prepare__"), (.type "type")])), (W [])⟩
def o133 (P : Params) : Obj := ⟨(.type "dict"), none, (.dict (D [E P (S "__module__") 353 (.str (S "nearcall.errors") 194), E P (S "__qualname__") 355 (.str (S "BadRoom") 354), E P (S "__firstlineno__") 357 (.int 34 356), E P (S "__init__") 364 (.ref 150), E P (S "__static_attributes__") 365 (.ref 151)]) 5), (W [])⟩
def o134 (P : Params) : Obj := ⟨(.type "tuple"), none, (.seq (V []) 0), (W [])⟩
def o135 (P : Params) : Obj := ⟨.none, none, (.fields (V [(.int 36 0), (.int 4 0), (.ref 149)])), (W [])⟩
def o136 (P : Params) : Obj := ⟨(.type "code"), none, (.fields (V [(.str (S "BadRoom") 348), (.str (S "BadRoom") 349), (.str (S "/claim/cut.py") 350), (.int 34 0), (.int 0 0), (.int 0 0), (.int 0 0), (.int 0 0), (.ref 140), (.bool false), (.int 181 0), (.ref 141), .none, .none, .none, .none, (.int 351 0), (.int 34 0), (.str (S "/claim/cut.py") 352)])), (W [])⟩
def o137 (P : Params) : Obj := ⟨(.type "frame"), none, .plain, (W [(some (.ref 142)), (some (.ref 3)), (some (.ref 139)), none, (some (.str (S "nearcall.errors") 194)), none, (some (.ref 0))])⟩
def o138 (P : Params) : Obj := ⟨(.type "tuple"), none, (.seq (V []) 0), (W [])⟩
def o139 (P : Params) : Obj := ⟨.none, none, (.fields (V [])), (W [])⟩
def o140 (P : Params) : Obj := ⟨(.type "tuple"), none, (.seq (V [(.str (S "self") 361)]) 0), (W [])⟩
def o141 (P : Params) : Obj := ⟨(.type "tuple"), none, (.seq (V []) 0), (W [])⟩
def o142 (P : Params) : Obj := ⟨.none, none, (.func ⟨(S "__init__"), (S "BadRoom.__init__"), (defArgs (inClass (ST 8) 0)), (.stmts (defBody (inClass (ST 8) 0))), (defScope (inClass (ST 3) 0)), 0, [], .none, .none, .none, .none, none, .none, .none, 0⟩), (W [])⟩
def o143 (P : Params) : Obj := ⟨(.type "code"), none, (.fields (V [(.str (S "__init__") 358), (.str (S "BadRoom.__init__") 359), (.str (S "/claim/cut.py") 360), (.int 36 0), (.int 1 0), (.int 0 0), (.int 0 0), (.int 3 0), (.ref 144), (.bool true), (.int 181 0), (.ref 145), .none, (.ref 146), (.ref 147), (.ref 148), (.int 362 0), (.int 36 0), (.str (S "/claim/cut.py") 363)])), (W [])⟩
def o144 (P : Params) : Obj := ⟨(.type "function"), none, (.func ⟨(S "__init__"), (S "BadRoom.__init__"), (defArgs (inClass (ST 8) 0)), (.stmts (defBody (inClass (ST 8) 0))), (defScope (inClass (ST 3) 0)), 3, [], .none, .none, .none, (.str (S "nearcall.errors") 194), none, (.ref 149), .none, 0⟩), (W [])⟩
def o145 (P : Params) : Obj := ⟨(.type "tuple"), none, (.seq (V []) 0), (W [])⟩
def o146 (P : Params) : Obj := ⟨(.type "dict"), none, (.dict (D [E P (S "__module__") 353 (.str (S "nearcall.errors") 194), E P (S "__firstlineno__") 357 (.int 34 356), E P (S "__init__") 364 (.ref 150), E P (S "__static_attributes__") 365 (.ref 151), E P (S "__doc__") 366 .none]) 2), (W [])⟩
def o147 (P : Params) : Obj := ⟨(.type "type"), none, (.cls ⟨(S "BadRoom"), [(.ref 38)], [(.ref 153), (.ref 38), (.type "ValueError"), (.type "Exception"), (.type "BaseException"), (.type "object")], 152, (S "BadRoom"), true, [], [], false, none, false⟩), (W [(some (.ref 137)), none, (some (.str (S "BadRoom") 346)), (some (.str (S "BadRoom") 354)), (some (.builtin "ValueError.__new__")), (some (.bool true))])⟩
def o148 (P : Params) : Obj := ⟨(.type "super"), none, (.fields (V [(.ref 153), (.ref 153), (.ref 153)])), (W [])⟩
def o149 (P : Params) : Obj := ⟨(.type "builtin_function_or_method"), none, (.fields (V [(.builtin "object.__init_subclass__"), (.ref 153)])), (W [])⟩
def o150 (P : Params) : Obj := ⟨(.type "tuple"), none, (.seq (V [(.ref 38)]) 0), (W [])⟩
def o151 (P : Params) : Obj := ⟨(.type "builtin_function_or_method"), none, (.fields (V [(.builtin "type.__prepare__"), (.type "type")])), (W [])⟩
def o152 (P : Params) : Obj := ⟨(.type "dict"), none, (.dict (D [E P (S "__module__") 376 (.str (S "nearcall.errors") 194), E P (S "__qualname__") 378 (.str (S "BadPart") 377), E P (S "__firstlineno__") 380 (.int 38 379), E P (S "__init__") 387 (.ref 169), E P (S "__static_attributes__") 388 (.ref 170)]) 5), (W [])⟩
def o153 (P : Params) : Obj := ⟨(.type "tuple"), none, (.seq (V []) 0), (W [])⟩
def o154 (P : Params) : Obj := ⟨.none, none, (.fields (V [(.int 40 0), (.int 4 0), (.ref 168)])), (W [])⟩
def o155 (P : Params) : Obj := ⟨(.type "code"), none, (.fields (V [(.str (S "BadPart") 371), (.str (S "BadPart") 372), (.str (S "/claim/cut.py") 373), (.int 38 0), (.int 0 0), (.int 0 0), (.int 0 0), (.int 0 0), (.ref 159), (.bool false), (.int 181 0), (.ref 160), .none, .none, .none, .none, (.int 374 0), (.int 38 0), (.str (S "/claim/cut.py") 375)])), (W [])⟩
def o156 (P : Params) : Obj := ⟨(.type "frame"), none, .plain, (W [(some (.ref 161)), (some (.ref 3)), (some (.ref 158)), none, (some (.str (S "nearcall.errors") 194)), none, (some (.ref 0))])⟩
def o157 (P : Params) : Obj := ⟨(.type "tuple"), none, (.seq (V []) 0), (W [])⟩
def o158 (P : Params) : Obj := ⟨.none, none, (.fields (V [])), (W [])⟩
def o159 (P : Params) : Obj := ⟨(.type "tuple"), none, (.seq (V [(.str (S "self") 384)]) 0), (W [])⟩
def o160 (P : Params) : Obj := ⟨(.type "tuple"), none, (.seq (V []) 0), (W [])⟩
def o161 (P : Params) : Obj := ⟨.none, none, (.func ⟨(S "__init__"), (S "BadPart.__init__"), (defArgs (inClass (ST 9) 0)), (.stmts (defBody (inClass (ST 9) 0))), (defScope (inClass (ST 3) 0)), 0, [], .none, .none, .none, .none, none, .none, .none, 0⟩), (W [])⟩
def o162 (P : Params) : Obj := ⟨(.type "code"), none, (.fields (V [(.str (S "__init__") 381), (.str (S "BadPart.__init__") 382), (.str (S "/claim/cut.py") 383), (.int 40 0), (.int 1 0), (.int 0 0), (.int 0 0), (.int 3 0), (.ref 163), (.bool true), (.int 181 0), (.ref 164), .none, (.ref 165), (.ref 166), (.ref 167), (.int 385 0), (.int 40 0), (.str (S "/claim/cut.py") 386)])), (W [])⟩
def o163 (P : Params) : Obj := ⟨(.type "function"), none, (.func ⟨(S "__init__"), (S "BadPart.__init__"), (defArgs (inClass (ST 9) 0)), (.stmts (defBody (inClass (ST 9) 0))), (defScope (inClass (ST 3) 0)), 3, [], .none, .none, .none, (.str (S "nearcall.errors") 194), none, (.ref 168), .none, 0⟩), (W [])⟩
def o164 (P : Params) : Obj := ⟨(.type "tuple"), none, (.seq (V []) 0), (W [])⟩
def o165 (P : Params) : Obj := ⟨(.type "dict"), none, (.dict (D [E P (S "__module__") 376 (.str (S "nearcall.errors") 194), E P (S "__firstlineno__") 380 (.int 38 379), E P (S "__init__") 387 (.ref 169), E P (S "__static_attributes__") 388 (.ref 170), E P (S "__doc__") 389 .none]) 2), (W [])⟩
def o166 (P : Params) : Obj := ⟨(.type "type"), none, (.cls ⟨(S "BadPart"), [(.ref 38)], [(.ref 172), (.ref 38), (.type "ValueError"), (.type "Exception"), (.type "BaseException"), (.type "object")], 171, (S "BadPart"), true, [], [], false, none, false⟩), (W [(some (.ref 156)), none, (some (.str (S "BadPart") 369)), (some (.str (S "BadPart") 377)), (some (.builtin "ValueError.__new__")), (some (.bool true))])⟩
def o167 (P : Params) : Obj := ⟨(.type "super"), none, (.fields (V [(.ref 172), (.ref 172), (.ref 172)])), (W [])⟩
def o168 (P : Params) : Obj := ⟨(.type "builtin_function_or_method"), none, (.fields (V [(.builtin "object.__init_subclass__"), (.ref 172)])), (W [])⟩
def objs_1 (P : Params) : List Obj :=
  [boot_o_0 P, boot_o_1 P, boot_o_2 P, o90 P, boot_o_4 P, boot_o_5 P, boot_o_6 P, boot_o_7 P, boot_o_8 P, boot_o_9 P, boot_o_10 P, o0 P, o91 P, o2 P, o3 P, o6 P, o7 P, o8 P, o9 P, o10 P, o11 P, o12 P, o13 P, o14 P, o15 P, o16 P, o17 P, o18 P, o19 P, o20 P, o21 P, o22 P, o23 P, o24 P, o25 P, o26 P, o27 P, o28 P, o92 P, o30 P] ++ (
  [o31 P, o32 P, o33 P, o34 P, o35 P, o36 P, o37 P, o38 P, o39 P, o40 P, o41 P, o42 P, o43 P, o44 P, o45 P, o46 P, o47 P, o48 P, o49 P, o50 P, o51 P, o52 P, o53 P, o54 P, o55 P, o56 P, o57 P, o58 P, o59 P, o60 P, o61 P, o62 P, o63 P, o64 P, o65 P, o66 P, o67 P, o68 P, o69 P, o70 P] ++ (
  [o71 P, o72 P, o73 P, o74 P, o75 P, o76 P, o77 P, o78 P, o79 P, o80 P, o81 P, o82 P, o83 P, o84 P, o85 P, o86 P, o87 P, o88 P, o89 P, o93 P, o94 P, o95 P, o96 P, o97 P, o98 P, o99 P, o100 P, o101 P, o102 P, o103 P, o104 P, o105 P, o106 P, o107 P, o108 P, o109 P, o110 P, o111 P, o112 P, o113 P] ++ (
  [o114 P, o115 P, o116 P, o117 P, o118 P, o119 P, o120 P, o121 P, o122 P, o123 P, o124 P, o125 P, o126 P, o127 P, o128 P, o129 P, o130 P, o131 P, o132 P, o133 P, o134 P, o135 P, o136 P, o137 P, o138 P, o139 P, o140 P, o141 P, o142 P, o143 P, o144 P, o145 P, o146 P, o147 P, o148 P, o149 P, o150 P, o151 P, o152 P, o153 P] ++ (
  [o154 P, o155 P, o156 P, o157 P, o158 P, o159 P, o160 P, o161 P, o162 P, o163 P, o164 P, o165 P, o166 P, o167 P, o168 P]))))
def o169 (P : Params) : Obj := ⟨(.type "dict"), none, (.dict (D [E P (S "__name__") 165 (.str (S "nearcall.errors") 194), E P (S "__doc__") 166 .none, E P (S "__package__") 167 .none, E P (S "__loader__") 168 (.builtin "__main__.__loader__#opaque"), E P (S "__spec__") 169 .none, E P (S "__annotations__") 170 (.ref 6), E P (S "__builtins__") 171 (.ref 4), E P (S "__file__") 173 (.str (S "/claim/cut.py") 172), E P (S "__cached__") 174 .none, E P (S "_wall") 193 (.ref 21), E P (S "HallError") 222 (.ref 38), E P (S "BadWalls") 245 (.ref 58), E P (S "BadBar") 270 (.ref 77), E P (S "BadSide") 293 (.ref 96), E P (S "Fixed") 318 (.ref 115), E P (S "Alike") 345 (.ref 134), E P (S "BadRoom") 368 (.ref 153), E P (S "BadPart") 391 (.ref 172), E P (S "Empty") 416 (.ref 191), E P (S "BadTurn") 439 (.ref 210), E P (S "BadTable") 464 (.ref 229), E P (S "OtherHall") 487 (.ref 248)]) 22), (W [])⟩
def o170 (P : Params) : Obj := ⟨.none, none, (.fields (V [(.int 1 0), (.int 0 0), (.ref 20), (.int 5 0), (.int 0 0), (.ref 27), (.int 10 0), (.int 0 0), (.ref 47), (.int 14 0), (.int 0 0), (.ref 66), (.int 19 0), (.int 0 0), (.ref 85), (.int 23 0), (.int 0 0), (.ref 104), (.int 28 0), (.int 0 0), (.ref 123), (.int 34 0), (.int 0 0), (.ref 142), (.int 38 0), (.int 0 0), (.ref 161), (.int 42 0), (.int 0 0), (.ref 180), (.int 47 0), (.int 0 0), (.ref 199), (.int 51 0), (.int 0 0), (.ref 218), (.int 56 0), (.int 0 0), (.ref 237)])), (W [])⟩
def o171 (P : Params) : Obj := ⟨(.type "type"), none, (.cls ⟨(S "HallError"), [(.type "ValueError")], [(.ref 38), (.type "ValueError"), (.type "Exception"), (.type "BaseException"), (.type "object")], 37, (S "HallError"), true, [], [(.ref 58), (.ref 77), (.ref 96), (.ref 115), (.ref 134), (.ref 153), (.ref 172), (.ref 191), (.ref 210), (.ref 229), (.ref 248)], false, none, false⟩), (W [(some (.ref 22)), none, (some (.str (S "HallError") 196)), (some (.str (S "HallError") 204)), (some (.builtin "ValueError.__new__")), (some (.bool true))])⟩
def o172 (P : Params) : Obj := ⟨(.type "tuple"), none, (.seq (V [(.ref 38)]) 0), (W [])⟩
def o173 (P : Params) : Obj := ⟨(.type "builtin_function_or_method"), none, (.fields (V [(.builtin "type.__prepare__"), (.type "type")])), (W [])⟩
def o174 (P : Params) : Obj := ⟨(.type "dict"), none, (.dict (D [E P (S "__module__") 399 (.str (S "nearcall.errors") 194), E P (S "__qualname__") 401 (.str (S "Empty") 400), E P (S "__firstlineno__") 403 (.int 42 402), E P (S "__init__") 411 (.ref 188), E P (S "__static_attributes__") 413 (.ref 189)]) 5), (W [])⟩
def o175 (P : Params) : Obj := ⟨(.type "tuple"), none, (.seq (V []) 0), (W [])⟩
def o176 (P : Params) : Obj := ⟨.none, none, (.fields (V [(.int 44 0), (.int 4 0), (.ref 187)])), (W [])⟩
def o177 (P : Params) : Obj := ⟨(.type "code"), none, (.fields (V [(.str (S "Empty") 394), (.str (S "Empty") 395), (.str (S "/claim/cut.py") 396), (.int 42 0), (.int 0 0), (.int 0 0), (.int 0 0), (.int 0 0), (.ref 178), (.bool false), (.int 181 0), (.ref 179), .none, .none, .none, .none, (.int 397 0), (.int 42 0), (.str (S "/claim/cut.py") 398)])), (W [])⟩
def o178 (P : Params) : Obj := ⟨(.type "frame"), none, .plain, (W [(some (.ref 180)), (some (.ref 3)), (some (.ref 177)), none, (some (.str (S "nearcall.errors") 194)), none, (some (.ref 0))])⟩
def o179 (P : Params) : Obj := ⟨(.type "tuple"), none, (.seq (V []) 0), (W [])⟩
def o180 (P : Params) : Obj := ⟨.none, none, (.fields (V [])), (W [])⟩
def o181 (P : Params) : Obj := ⟨(.type "tuple"), none, (.seq (V [(.str (S "self") 407), (.str (S "wall") 408)]) 0), (W [])⟩
def o182 (P : Params) : Obj := ⟨(.type "tuple"), none, (.seq (V []) 0), (W [])⟩
def o183 (P : Params) : Obj := ⟨.none, none, (.func ⟨(S "__init__"), (S "Empty.__init__"), (defArgs (inClass (ST 10) 0)), (.stmts (defBody (inClass (ST 10) 0))), (defScope (inClass (ST 10) 0)), 0, [], .none, .none, .none, .none, none, .none, .none, 0⟩), (W [])⟩
def o184 (P : Params) : Obj := ⟨(.type "code"), none, (.fields (V [(.str (S "__init__") 404), (.str (S "Empty.__init__") 405), (.str (S "/claim/cut.py") 406), (.int 44 0), (.int 2 0), (.int 0 0), (.int 0 0), (.int 3 0), (.ref 182), (.bool true), (.int 181 0), (.ref 183), .none, (.ref 184), (.ref 185), (.ref 186), (.int 409 0), (.int 44 0), (.str (S "/claim/cut.py") 410)])), (W [])⟩
def o185 (P : Params) : Obj := ⟨(.type "function"), none, (.func ⟨(S "__init__"), (S "Empty.__init__"), (defArgs (inClass (ST 10) 0)), (.stmts (defBody (inClass (ST 10) 0))), (defScope (inClass (ST 10) 0)), 3, [], .none, .none, .none, (.str (S "nearcall.errors") 194), none, (.ref 187), .none, 0⟩), (W [])⟩
def o186 (P : Params) : Obj := ⟨(.type "tuple"), none, (.seq (V [(.str (S "wall") 412)]) 0), (W [])⟩
def o187 (P : Params) : Obj := ⟨(.type "dict"), none, (.dict (D [E P (S "__module__") 399 (.str (S "nearcall.errors") 194), E P (S "__firstlineno__") 403 (.int 42 402), E P (S "__init__") 411 (.ref 188), E P (S "__static_attributes__") 413 (.ref 189), E P (S "__doc__") 414 .none]) 2), (W [])⟩
def o188 (P : Params) : Obj := ⟨(.type "type"), none, (.cls ⟨(S "Empty"), [(.ref 38)], [(.ref 191), (.ref 38), (.type "ValueError"), (.type "Exception"), (.type "BaseException"), (.type "object")], 190, (S "Empty"), true, [], [], false, none, false⟩), (W [(some (.ref 175)), none, (some (.str (S "Empty") 392)), (some (.str (S "Empty") 400)), (some (.builtin "ValueError.__new__")), (some (.bool true))])⟩
def o189 (P : Params) : Obj := ⟨(.type "super"), none, (.fields (V [(.ref 191), (.ref 191), (.ref 191)])), (W [])⟩
def o190 (P : Params) : Obj := ⟨(.type "builtin_function_or_method"), none, (.fields (V [(.builtin "object.__init_subclass__"), (.ref 191)])), (W [])⟩
def o191 (P : Params) : Obj := ⟨(.type "tuple"), none, (.seq (V [(.ref 38)]) 0), (W [])⟩
def o192 (P : Params) : Obj := ⟨(.type "builtin_function_or_method"), none, (.fields (V [(.builtin "type.__prepare__"), (.type "type")])), (W [])⟩
def o193 (P : Params) : Obj := ⟨(.type "dict"), none, (.dict (D [E P (S "__module__") 424 (.str (S "nearcall.errors") 194), E P (S "__qualname__") 426 (.str (S "BadTurn") 425), E P (S "__firstlineno__") 428 (.int 47 427), E P (S "__init__") 435 (.ref 207), E P (S "__static_attributes__") 436 (.ref 208)]) 5), (W [])⟩
def o194 (P : Params) : Obj := ⟨(.type "tuple"), none, (.seq (V []) 0), (W [])⟩
def o195 (P : Params) : Obj := ⟨.none, none, (.fields (V [(.int 49 0), (.int 4 0), (.ref 206)])), (W [])⟩
def o196 (P : Params) : Obj := ⟨(.type "code"), none, (.fields (V [(.str (S "BadTurn") 419), (.str (S "BadTurn") 420), (.str (S "/claim/cut.py") 421), (.int 47 0), (.int 0 0), (.int 0 0), (.int 0 0), (.int 0 0), (.ref 197), (.bool false), (.int 181 0), (.ref 198), .none, .none, .none, .none, (.int 422 0), (.int 47 0), (.str (S "/claim/cut.py") 423)])), (W [])⟩
def o197 (P : Params) : Obj := ⟨(.type "frame"), none, .plain, (W [(some (.ref 199)), (some (.ref 3)), (some (.ref 196)), none, (some (.str (S "nearcall.errors") 194)), none, (some (.ref 0))])⟩
def o198 (P : Params) : Obj := ⟨(.type "tuple"), none, (.seq (V []) 0), (W [])⟩
def o199 (P : Params) : Obj := ⟨.none, none, (.fields (V [])), (W [])⟩
def o200 (P : Params) : Obj := ⟨(.type "tuple"), none, (.seq (V [(.str (S "self") 432)]) 0), (W [])⟩
def o201 (P : Params) : Obj := ⟨(.type "tuple"), none, (.seq (V []) 0), (W [])⟩
def o202 (P : Params) : Obj := ⟨.none, none, (.func ⟨(S "__init__"), (S "BadTurn.__init__"), (defArgs (inClass (ST 11) 0)), (.stmts (defBody (inClass (ST 11) 0))), (defScope (inClass (ST 3) 0)), 0, [], .none, .none, .none, .none, none, .none, .none, 0⟩), (W [])⟩
def o203 (P : Params) : Obj := ⟨(.type "code"), none, (.fields (V [(.str (S "__init__") 429), (.str (S "BadTurn.__init__") 430), (.str (S "/claim/cut.py") 431), (.int 49 0), (.int 1 0), (.int 0 0), (.int 0 0), (.int 3 0), (.ref 201), (.bool true), (.int 181 0), (.ref 202), .none, (.ref 203), (.ref 204), (.ref 205), (.int 433 0), (.int 49 0), (.str (S "/claim/cut.py") 434)])), (W [])⟩
def o204 (P : Params) : Obj := ⟨(.type "function"), none, (.func ⟨(S "__init__"), (S "BadTurn.__init__"), (defArgs (inClass (ST 11) 0)), (.stmts (defBody (inClass (ST 11) 0))), (defScope (inClass (ST 3) 0)), 3, [], .none, .none, .none, (.str (S "nearcall.errors") 194), none, (.ref 206), .none, 0⟩), (W [])⟩
def o205 (P : Params) : Obj := ⟨(.type "tuple"), none, (.seq (V []) 0), (W [])⟩
def o206 (P : Params) : Obj := ⟨(.type "dict"), none, (.dict (D [E P (S "__module__") 424 (.str (S "nearcall.errors") 194), E P (S "__firstlineno__") 428 (.int 47 427), E P (S "__init__") 435 (.ref 207), E P (S "__static_attributes__") 436 (.ref 208), E P (S "__doc__") 437 .none]) 2), (W [])⟩
def o207 (P : Params) : Obj := ⟨(.type "type"), none, (.cls ⟨(S "BadTurn"), [(.ref 38)], [(.ref 210), (.ref 38), (.type "ValueError"), (.type "Exception"), (.type "BaseException"), (.type "object")], 209, (S "BadTurn"), true, [], [], false, none, false⟩), (W [(some (.ref 194)), none, (some (.str (S "BadTurn") 417)), (some (.str (S "BadTurn") 425)), (some (.builtin "ValueError.__new__")), (some (.bool true))])⟩
def o208 (P : Params) : Obj := ⟨(.type "super"), none, (.fields (V [(.ref 210), (.ref 210), (.ref 210)])), (W [])⟩
def o209 (P : Params) : Obj := ⟨(.type "builtin_function_or_method"), none, (.fields (V [(.builtin "object.__init_subclass__"), (.ref 210)])), (W [])⟩
def o210 (P : Params) : Obj := ⟨(.type "tuple"), none, (.seq (V [(.ref 38)]) 0), (W [])⟩
def o211 (P : Params) : Obj := ⟨(.type "builtin_function_or_method"), none, (.fields (V [(.builtin "type.__prepare__"), (.type "type")])), (W [])⟩
def o212 (P : Params) : Obj := ⟨(.type "dict"), none, (.dict (D [E P (S "__module__") 447 (.str (S "nearcall.errors") 194), E P (S "__qualname__") 449 (.str (S "BadTable") 448), E P (S "__firstlineno__") 451 (.int 51 450), E P (S "__init__") 459 (.ref 226), E P (S "__static_attributes__") 461 (.ref 227)]) 5), (W [])⟩
def o213 (P : Params) : Obj := ⟨(.type "tuple"), none, (.seq (V []) 0), (W [])⟩
def o214 (P : Params) : Obj := ⟨.none, none, (.fields (V [(.int 53 0), (.int 4 0), (.ref 225)])), (W [])⟩
def o215 (P : Params) : Obj := ⟨(.type "code"), none, (.fields (V [(.str (S "BadTable") 442), (.str (S "BadTable") 443), (.str (S "/claim/cut.py") 444), (.int 51 0), (.int 0 0), (.int 0 0), (.int 0 0), (.int 0 0), (.ref 216), (.bool false), (.int 181 0), (.ref 217), .none, .none, .none, .none, (.int 445 0), (.int 51 0), (.str (S "/claim/cut.py") 446)])), (W [])⟩
def o216 (P : Params) : Obj := ⟨(.type "frame"), none, .plain, (W [(some (.ref 218)), (some (.ref 3)), (some (.ref 215)), none, (some (.str (S "nearcall.errors") 194)), none, (some (.ref 0))])⟩
def o217 (P : Params) : Obj := ⟨(.type "tuple"), none, (.seq (V []) 0), (W [])⟩
def o218 (P : Params) : Obj := ⟨.none, none, (.fields (V [])), (W [])⟩
def o219 (P : Params) : Obj := ⟨(.type "tuple"), none, (.seq (V [(.str (S "self") 455), (.str (S "at") 456)]) 0), (W [])⟩
def o220 (P : Params) : Obj := ⟨(.type "tuple"), none, (.seq (V []) 0), (W [])⟩
def o221 (P : Params) : Obj := ⟨.none, none, (.func ⟨(S "__init__"), (S "BadTable.__init__"), (defArgs (inClass (ST 12) 0)), (.stmts (defBody (inClass (ST 12) 0))), (defScope (inClass (ST 4) 0)), 0, [], .none, .none, .none, .none, none, .none, .none, 0⟩), (W [])⟩
def o222 (P : Params) : Obj := ⟨(.type "code"), none, (.fields (V [(.str (S "__init__") 452), (.str (S "BadTable.__init__") 453), (.str (S "/claim/cut.py") 454), (.int 53 0), (.int 2 0), (.int 0 0), (.int 0 0), (.int 3 0), (.ref 220), (.bool true), (.int 181 0), (.ref 221), .none, (.ref 222), (.ref 223), (.ref 224), (.int 457 0), (.int 53 0), (.str (S "/claim/cut.py") 458)])), (W [])⟩
def o223 (P : Params) : Obj := ⟨(.type "function"), none, (.func ⟨(S "__init__"), (S "BadTable.__init__"), (defArgs (inClass (ST 12) 0)), (.stmts (defBody (inClass (ST 12) 0))), (defScope (inClass (ST 4) 0)), 3, [], .none, .none, .none, (.str (S "nearcall.errors") 194), none, (.ref 225), .none, 0⟩), (W [])⟩
def o224 (P : Params) : Obj := ⟨(.type "tuple"), none, (.seq (V [(.str (S "at") 460)]) 0), (W [])⟩
def o225 (P : Params) : Obj := ⟨(.type "dict"), none, (.dict (D [E P (S "__module__") 447 (.str (S "nearcall.errors") 194), E P (S "__firstlineno__") 451 (.int 51 450), E P (S "__init__") 459 (.ref 226), E P (S "__static_attributes__") 461 (.ref 227), E P (S "__doc__") 462 .none]) 2), (W [])⟩
def o226 (P : Params) : Obj := ⟨(.type "type"), none, (.cls ⟨(S "BadTable"), [(.ref 38)], [(.ref 229), (.ref 38), (.type "ValueError"), (.type "Exception"), (.type "BaseException"), (.type "object")], 228, (S "BadTable"), true, [], [], false, none, false⟩), (W [(some (.ref 213)), none, (some (.str (S "BadTable") 440)), (some (.str (S "BadTable") 448)), (some (.builtin "ValueError.__new__")), (some (.bool true))])⟩
def o227 (P : Params) : Obj := ⟨(.type "super"), none, (.fields (V [(.ref 229), (.ref 229), (.ref 229)])), (W [])⟩
def o228 (P : Params) : Obj := ⟨(.type "builtin_function_or_method"), none, (.fields (V [(.builtin "object.__init_subclass__"), (.ref 229)])), (W [])⟩
def o229 (P : Params) : Obj := ⟨(.type "tuple"), none, (.seq (V [(.ref 38)]) 0), (W [])⟩
def o230 (P : Params) : Obj := ⟨(.type "builtin_function_or_method"), none, (.fields (V [(.builtin "type.__prepare__"), (.type "type")])), (W [])⟩
def o231 (P : Params) : Obj := ⟨(.type "dict"), none, (.dict (D [E P (S "__module__") 472 (.str (S "nearcall.errors") 194), E P (S "__qualname__") 474 (.str (S "OtherHall") 473), E P (S "__firstlineno__") 476 (.int 56 475), E P (S "__init__") 483 (.ref 245), E P (S "__static_attributes__") 484 (.ref 246)]) 5), (W [])⟩
def o232 (P : Params) : Obj := ⟨(.type "tuple"), none, (.seq (V []) 0), (W [])⟩
def o233 (P : Params) : Obj := ⟨.none, none, (.fields (V [(.int 58 0), (.int 4 0), (.ref 244)])), (W [])⟩
def o234 (P : Params) : Obj := ⟨(.type "code"), none, (.fields (V [(.str (S "OtherHall") 467), (.str (S "OtherHall") 468), (.str (S "/claim/cut.py") 469), (.int 56 0), (.int 0 0), (.int 0 0), (.int 0 0), (.int 0 0), (.ref 235), (.bool false), (.int 181 0), (.ref 236), .none, .none, .none, .none, (.int 470 0), (.int 56 0), (.str (S "/claim/cut.py") 471)])), (W [])⟩
def o235 (P : Params) : Obj := ⟨(.type "frame"), none, .plain, (W [(some (.ref 237)), (some (.ref 3)), (some (.ref 234)), none, (some (.str (S "nearcall.errors") 194)), none, (some (.ref 0))])⟩
def o236 (P : Params) : Obj := ⟨(.type "tuple"), none, (.seq (V []) 0), (W [])⟩
def o237 (P : Params) : Obj := ⟨.none, none, (.fields (V [])), (W [])⟩
def o238 (P : Params) : Obj := ⟨(.type "tuple"), none, (.seq (V [(.str (S "self") 480)]) 0), (W [])⟩
def o239 (P : Params) : Obj := ⟨(.type "tuple"), none, (.seq (V []) 0), (W [])⟩
def o240 (P : Params) : Obj := ⟨.none, none, (.func ⟨(S "__init__"), (S "OtherHall.__init__"), (defArgs (inClass (ST 13) 0)), (.stmts (defBody (inClass (ST 13) 0))), (defScope (inClass (ST 3) 0)), 0, [], .none, .none, .none, .none, none, .none, .none, 0⟩), (W [])⟩
def o241 (P : Params) : Obj := ⟨(.type "code"), none, (.fields (V [(.str (S "__init__") 477), (.str (S "OtherHall.__init__") 478), (.str (S "/claim/cut.py") 479), (.int 58 0), (.int 1 0), (.int 0 0), (.int 0 0), (.int 3 0), (.ref 239), (.bool true), (.int 181 0), (.ref 240), .none, (.ref 241), (.ref 242), (.ref 243), (.int 481 0), (.int 58 0), (.str (S "/claim/cut.py") 482)])), (W [])⟩
def o242 (P : Params) : Obj := ⟨(.type "function"), none, (.func ⟨(S "__init__"), (S "OtherHall.__init__"), (defArgs (inClass (ST 13) 0)), (.stmts (defBody (inClass (ST 13) 0))), (defScope (inClass (ST 3) 0)), 3, [], .none, .none, .none, (.str (S "nearcall.errors") 194), none, (.ref 244), .none, 0⟩), (W [])⟩
def o243 (P : Params) : Obj := ⟨(.type "tuple"), none, (.seq (V []) 0), (W [])⟩
def o244 (P : Params) : Obj := ⟨(.type "dict"), none, (.dict (D [E P (S "__module__") 472 (.str (S "nearcall.errors") 194), E P (S "__firstlineno__") 476 (.int 56 475), E P (S "__init__") 483 (.ref 245), E P (S "__static_attributes__") 484 (.ref 246), E P (S "__doc__") 485 .none]) 2), (W [])⟩
def o245 (P : Params) : Obj := ⟨(.type "type"), none, (.cls ⟨(S "OtherHall"), [(.ref 38)], [(.ref 248), (.ref 38), (.type "ValueError"), (.type "Exception"), (.type "BaseException"), (.type "object")], 247, (S "OtherHall"), true, [], [], false, none, false⟩), (W [(some (.ref 232)), none, (some (.str (S "OtherHall") 465)), (some (.str (S "OtherHall") 473)), (some (.builtin "ValueError.__new__")), (some (.bool true))])⟩
def o246 (P : Params) : Obj := ⟨(.type "super"), none, (.fields (V [(.ref 248), (.ref 248), (.ref 248)])), (W [])⟩
def o247 (P : Params) : Obj := ⟨(.type "builtin_function_or_method"), none, (.fields (V [(.builtin "object.__init_subclass__"), (.ref 248)])), (W [])⟩
def objs_2 (P : Params) : List Obj :=
  [boot_o_0 P, boot_o_1 P, boot_o_2 P, o169 P, boot_o_4 P, boot_o_5 P, boot_o_6 P, boot_o_7 P, boot_o_8 P, boot_o_9 P, boot_o_10 P, o0 P, o170 P, o2 P, o3 P, o6 P, o7 P, o8 P, o9 P, o10 P, o11 P, o12 P, o13 P, o14 P, o15 P, o16 P, o17 P, o18 P, o19 P, o20 P, o21 P, o22 P, o23 P, o24 P, o25 P, o26 P, o27 P, o28 P, o171 P, o30 P] ++ (
  [o31 P, o32 P, o33 P, o34 P, o35 P, o36 P, o37 P, o38 P, o39 P, o40 P, o41 P, o42 P, o43 P, o44 P, o45 P, o46 P, o47 P, o48 P, o49 P, o50 P, o51 P, o52 P, o53 P, o54 P, o55 P, o56 P, o57 P, o58 P, o59 P, o60 P, o61 P, o62 P, o63 P, o64 P, o65 P, o66 P, o67 P, o68 P, o69 P, o70 P] ++ (
  [o71 P, o72 P, o73 P, o74 P, o75 P, o76 P, o77 P, o78 P, o79 P, o80 P, o81 P, o82 P, o83 P, o84 P, o85 P, o86 P, o87 P, o88 P, o89 P, o93 P, o94 P, o95 P, o96 P, o97 P, o98 P, o99 P, o100 P, o101 P, o102 P, o103 P, o104 P, o105 P, o106 P, o107 P, o108 P, o109 P, o110 P, o111 P, o112 P, o113 P] ++ (
  [o114 P, o115 P, o116 P, o117 P, o118 P, o119 P, o120 P, o121 P, o122 P, o123 P, o124 P, o125 P, o126 P, o127 P, o128 P, o129 P, o130 P, o131 P, o132 P, o133 P, o134 P, o135 P, o136 P, o137 P, o138 P, o139 P, o140 P, o141 P, o142 P, o143 P, o144 P, o145 P, o146 P, o147 P, o148 P, o149 P, o150 P, o151 P, o152 P, o153 P] ++ (
  [o154 P, o155 P, o156 P, o157 P, o158 P, o159 P, o160 P, o161 P, o162 P, o163 P, o164 P, o165 P, o166 P, o167 P, o168 P, o172 P, o173 P, o174 P, o175 P, o176 P, o177 P, o178 P, o179 P, o180 P, o181 P, o182 P, o183 P, o184 P, o185 P, o186 P, o187 P, o188 P, o189 P, o190 P, o191 P, o192 P, o193 P, o194 P, o195 P, o196 P] ++ (
  [o197 P, o198 P, o199 P, o200 P, o201 P, o202 P, o203 P, o204 P, o205 P, o206 P, o207 P, o208 P, o209 P, o210 P, o211 P, o212 P, o213 P, o214 P, o215 P, o216 P, o217 P, o218 P, o219 P, o220 P, o221 P, o222 P, o223 P, o224 P, o225 P, o226 P, o227 P, o228 P, o229 P, o230 P, o231 P, o232 P, o233 P, o234 P, o235 P, o236 P] ++ (
  [o237 P, o238 P, o239 P, o240 P, o241 P, o242 P, o243 P, o244 P, o245 P, o246 P, o247 P]))))))
def o248 (P : Params) : Obj := ⟨.none, none, (.dict (D [E P (S "type.__subclasses__.IndexError.0") 564 (.int 306 0), E P (S "type.__subclasses__.IndexError.n") 565 (.int 1 0)]) 2), (W [])⟩
def o249 (P : Params) : Obj := ⟨(.type "dict"), none, (.dict (D [E P (S "__name__") 165 (.str (S "nearcall.halls") 568), E P (S "__doc__") 166 .none, E P (S "__package__") 167 .none, E P (S "__loader__") 168 (.builtin "__main__.__loader__#opaque"), E P (S "__spec__") 169 .none, E P (S "__annotations__") 170 (.ref 6), E P (S "__builtins__") 171 (.ref 4), E P (S "__file__") 173 (.str (S "/claim/cut.py") 172), E P (S "__cached__") 174 .none, E P (S "_wall") 193 (.ref 21), E P (S "HallError") 222 (.ref 38), E P (S "BadWalls") 245 (.ref 58), E P (S "BadBar") 270 (.ref 77), E P (S "BadSide") 293 (.ref 96), E P (S "Fixed") 318 (.ref 115), E P (S "Alike") 345 (.ref 134), E P (S "BadRoom") 368 (.ref 153), E P (S "BadPart") 391 (.ref 172), E P (S "Empty") 416 (.ref 191), E P (S "BadTurn") 439 (.ref 210), E P (S "BadTable") 464 (.ref 229), E P (S "OtherHall") 487 (.ref 248), E P (S "TooMany") 512 (.ref 267), E P (S "Missing") 539 (.ref 286), E P (S "NothingLeft") 567 (.ref 306), E P (S "WIDEST") 571 (.int 12 570), E P (S "other") 578 (.ref 316), E P (S "sides_of") 585 (.ref 323), E P (S "by_walls") 591 (.ref 328), E P (S "is_walls") 597 (.ref 333), E P (S "is_bar") 606 (.ref 340), E P (S "check_walls") 613 (.ref 347), E P (S "check_bars") 623 (.ref 354), E P (S "check_side") 631 (.ref 361), E P (S "check_room") 639 (.ref 368), E P (S "straight_from") 645 (.ref 373)]) 36), (W [])⟩
def o250 (P : Params) : Obj := ⟨.none, none, (.fields (V [(.int 1 0), (.int 0 0), (.ref 20), (.int 5 0), (.int 0 0), (.ref 27), (.int 10 0), (.int 0 0), (.ref 47), (.int 14 0), (.int 0 0), (.ref 66), (.int 19 0), (.int 0 0), (.ref 85), (.int 23 0), (.int 0 0), (.ref 104), (.int 28 0), (.int 0 0), (.ref 123), (.int 34 0), (.int 0 0), (.ref 142), (.int 38 0), (.int 0 0), (.ref 161), (.int 42 0), (.int 0 0), (.ref 180), (.int 47 0), (.int 0 0), (.ref 199), (.int 51 0), (.int 0 0), (.ref 218), (.int 56 0), (.int 0 0), (.ref 237), (.int 60 0), (.int 0 0), (.ref 256), (.int 65 0), (.int 0 0), (.ref 275), (.int 70 0), (.int 0 0), (.ref 295), (.int 77 0), (.int 0 0), (.ref 315), (.int 79 0), (.int 0 0), (.ref 322), (.int 81 0), (.int 0 0), (.ref 327), (.int 83 0), (.int 0 0), (.ref 332), (.int 86 0), (.int 0 0), (.ref 339), (.int 91 0), (.int 0 0), (.ref 346), (.int 94 0), (.int 0 0), (.ref 353), (.int 98 0), (.int 0 0), (.ref 360), (.int 101 0), (.int 0 0), (.ref 367), (.int 104 0), (.int 0 0), (.ref 372)])), (W [])⟩
def o251 (P : Params) : Obj := ⟨(.type "type"), none, (.cls ⟨(S "HallError"), [(.type "ValueError")], [(.ref 38), (.type "ValueError"), (.type "Exception"), (.type "BaseException"), (.type "object")], 37, (S "HallError"), true, [], [(.ref 58), (.ref 77), (.ref 96), (.ref 115), (.ref 134), (.ref 153), (.ref 172), (.ref 191), (.ref 210), (.ref 229), (.ref 248), (.ref 267)], false, none, false⟩), (W [(some (.ref 22)), none, (some (.str (S "HallError") 196)), (some (.str (S "HallError") 204)), (some (.builtin "ValueError.__new__")), (some (.bool true))])⟩
def o252 (P : Params) : Obj := ⟨(.type "tuple"), none, (.seq (V [(.ref 38)]) 0), (W [])⟩
def o253 (P : Params) : Obj := ⟨(.type "builtin_function_or_method"), none, (.fields (V [(.builtin "type.__prepare__"), (.type "type")])), (W [])⟩
def o254 (P : Params) : Obj := ⟨(.type "dict"), none, (.dict (D [E P (S "__module__") 495 (.str (S "nearcall.errors") 194), E P (S "__qualname__") 497 (.str (S "TooMany") 496), E P (S "__firstlineno__") 499 (.int 60 498), E P (S "__init__") 507 (.ref 264), E P (S "__static_attributes__") 509 (.ref 265)]) 5), (W [])⟩
def o255 (P : Params) : Obj := ⟨(.type "tuple"), none, (.seq (V []) 0), (W [])⟩
def o256 (P : Params) : Obj := ⟨.none, none, (.fields (V [(.int 62 0), (.int 4 0), (.ref 263)])), (W [])⟩
def o257 (P : Params) : Obj := ⟨(.type "code"), none, (.fields (V [(.str (S "TooMany") 490), (.str (S "TooMany") 491), (.str (S "/claim/cut.py") 492), (.int 60 0), (.int 0 0), (.int 0 0), (.int 0 0), (.int 0 0), (.ref 254), (.bool false), (.int 181 0), (.ref 255), .none, .none, .none, .none, (.int 493 0), (.int 60 0), (.str (S "/claim/cut.py") 494)])), (W [])⟩
def o258 (P : Params) : Obj := ⟨(.type "frame"), none, .plain, (W [(some (.ref 256)), (some (.ref 3)), (some (.ref 253)), none, (some (.str (S "nearcall.errors") 194)), none, (some (.ref 0))])⟩
def o259 (P : Params) : Obj := ⟨(.type "tuple"), none, (.seq (V []) 0), (W [])⟩
def o260 (P : Params) : Obj := ⟨.none, none, (.fields (V [])), (W [])⟩
def o261 (P : Params) : Obj := ⟨(.type "tuple"), none, (.seq (V [(.str (S "self") 503), (.str (S "most") 504)]) 0), (W [])⟩
def o262 (P : Params) : Obj := ⟨(.type "tuple"), none, (.seq (V []) 0), (W [])⟩
def o263 (P : Params) : Obj := ⟨.none, none, (.func ⟨(S "__init__"), (S "TooMany.__init__"), (defArgs (inClass (ST 14) 0)), (.stmts (defBody (inClass (ST 14) 0))), (defScope (inClass (ST 14) 0)), 0, [], .none, .none, .none, .none, none, .none, .none, 0⟩), (W [])⟩
def o264 (P : Params) : Obj := ⟨(.type "code"), none, (.fields (V [(.str (S "__init__") 500), (.str (S "TooMany.__init__") 501), (.str (S "/claim/cut.py") 502), (.int 62 0), (.int 2 0), (.int 0 0), (.int 0 0), (.int 3 0), (.ref 258), (.bool true), (.int 181 0), (.ref 259), .none, (.ref 260), (.ref 261), (.ref 262), (.int 505 0), (.int 62 0), (.str (S "/claim/cut.py") 506)])), (W [])⟩
def o265 (P : Params) : Obj := ⟨(.type "function"), none, (.func ⟨(S "__init__"), (S "TooMany.__init__"), (defArgs (inClass (ST 14) 0)), (.stmts (defBody (inClass (ST 14) 0))), (defScope (inClass (ST 14) 0)), 3, [], .none, .none, .none, (.str (S "nearcall.errors") 194), none, (.ref 263), .none, 0⟩), (W [])⟩
def o266 (P : Params) : Obj := ⟨(.type "tuple"), none, (.seq (V [(.str (S "most") 508)]) 0), (W [])⟩
def o267 (P : Params) : Obj := ⟨(.type "dict"), none, (.dict (D [E P (S "__module__") 495 (.str (S "nearcall.errors") 194), E P (S "__firstlineno__") 499 (.int 60 498), E P (S "__init__") 507 (.ref 264), E P (S "__static_attributes__") 509 (.ref 265), E P (S "__doc__") 510 .none]) 2), (W [])⟩
def o268 (P : Params) : Obj := ⟨(.type "type"), none, (.cls ⟨(S "TooMany"), [(.ref 38)], [(.ref 267), (.ref 38), (.type "ValueError"), (.type "Exception"), (.type "BaseException"), (.type "object")], 266, (S "TooMany"), true, [], [], false, none, false⟩), (W [(some (.ref 251)), none, (some (.str (S "TooMany") 488)), (some (.str (S "TooMany") 496)), (some (.builtin "ValueError.__new__")), (some (.bool true))])⟩
def o269 (P : Params) : Obj := ⟨(.type "super"), none, (.fields (V [(.ref 267), (.ref 267), (.ref 267)])), (W [])⟩
def o270 (P : Params) : Obj := ⟨(.type "builtin_function_or_method"), none, (.fields (V [(.builtin "object.__init_subclass__"), (.ref 267)])), (W [])⟩
def o271 (P : Params) : Obj := ⟨(.type "tuple"), none, (.seq (V [(.type "LookupError")]) 0), (W [])⟩
def o272 (P : Params) : Obj := ⟨(.type "builtin_function_or_method"), none, (.fields (V [(.builtin "type.__prepare__"), (.type "type")])), (W [])⟩
def o273 (P : Params) : Obj := ⟨(.type "dict"), none, (.dict (D [E P (S "__module__") 520 (.str (S "nearcall.errors") 194), E P (S "__qualname__") 522 (.str (S "Missing") 521), E P (S "__firstlineno__") 524 (.int 65 523), E P (S "__init__") 532 (.ref 283), E P (S "__static_attributes__") 534 (.ref 284)]) 5), (W [])⟩
def o274 (P : Params) : Obj := ⟨(.type "tuple"), none, (.seq (V []) 0), (W [])⟩
def o275 (P : Params) : Obj := ⟨.none, none, (.fields (V [(.int 67 0), (.int 4 0), (.ref 282)])), (W [])⟩
def o276 (P : Params) : Obj := ⟨(.type "code"), none, (.fields (V [(.str (S "Missing") 515), (.str (S "Missing") 516), (.str (S "/claim/cut.py") 517), (.int 65 0), (.int 0 0), (.int 0 0), (.int 0 0), (.int 0 0), (.ref 273), (.bool false), (.int 181 0), (.ref 274), .none, .none, .none, .none, (.int 518 0), (.int 65 0), (.str (S "/claim/cut.py") 519)])), (W [])⟩
def o277 (P : Params) : Obj := ⟨(.type "frame"), none, .plain, (W [(some (.ref 275)), (some (.ref 3)), (some (.ref 272)), none, (some (.str (S "nearcall.errors") 194)), none, (some (.ref 0))])⟩
def o278 (P : Params) : Obj := ⟨(.type "tuple"), none, (.seq (V []) 0), (W [])⟩
def o279 (P : Params) : Obj := ⟨.none, none, (.fields (V [])), (W [])⟩
def o280 (P : Params) : Obj := ⟨(.type "tuple"), none, (.seq (V [(.str (S "self") 528), (.str (S "word") 529)]) 0), (W [])⟩
def o281 (P : Params) : Obj := ⟨(.type "tuple"), none, (.seq (V []) 0), (W [])⟩
def o282 (P : Params) : Obj := ⟨.none, none, (.func ⟨(S "__init__"), (S "Missing.__init__"), (defArgs (inClass (ST 15) 0)), (.stmts (defBody (inClass (ST 15) 0))), (defScope (inClass (ST 15) 0)), 0, [], .none, .none, .none, .none, none, .none, .none, 0⟩), (W [])⟩
def o283 (P : Params) : Obj := ⟨(.type "code"), none, (.fields (V [(.str (S "__init__") 525), (.str (S "Missing.__init__") 526), (.str (S "/claim/cut.py") 527), (.int 67 0), (.int 2 0), (.int 0 0), (.int 0 0), (.int 3 0), (.ref 277), (.bool true), (.int 181 0), (.ref 278), .none, (.ref 279), (.ref 280), (.ref 281), (.int 530 0), (.int 67 0), (.str (S "/claim/cut.py") 531)])), (W [])⟩
def o284 (P : Params) : Obj := ⟨(.type "function"), none, (.func ⟨(S "__init__"), (S "Missing.__init__"), (defArgs (inClass (ST 15) 0)), (.stmts (defBody (inClass (ST 15) 0))), (defScope (inClass (ST 15) 0)), 3, [], .none, .none, .none, (.str (S "nearcall.errors") 194), none, (.ref 282), .none, 0⟩), (W [])⟩
def o285 (P : Params) : Obj := ⟨(.type "tuple"), none, (.seq (V [(.str (S "word") 533)]) 0), (W [])⟩
def o286 (P : Params) : Obj := ⟨(.type "dict"), none, (.dict (D [E P (S "__module__") 520 (.str (S "nearcall.errors") 194), E P (S "__firstlineno__") 524 (.int 65 523), E P (S "__init__") 532 (.ref 283), E P (S "__static_attributes__") 534 (.ref 284), E P (S "__weakref__") 536 (.ref 287), E P (S "__doc__") 537 .none]) 3), (W [])⟩
def o287 (P : Params) : Obj := ⟨(.type "type"), none, (.cls ⟨(S "Missing"), [(.type "LookupError")], [(.ref 286), (.type "LookupError"), (.type "Exception"), (.type "BaseException"), (.type "object")], 285, (S "Missing"), true, [], [], false, none, false⟩), (W [(some (.ref 270)), none, (some (.str (S "Missing") 513)), (some (.str (S "Missing") 521)), (some (.builtin "LookupError.__new__")), (some (.bool true))])⟩
def o288 (P : Params) : Obj := ⟨(.type "getset_descriptor"), none, (.fields (V [(.str (S "__weakref__") 535), (.ref 286), (.builtin "ExceptionGroup.__weakref__"), .none])), (W [])⟩
def o289 (P : Params) : Obj := ⟨(.type "super"), none, (.fields (V [(.ref 286), (.ref 286), (.ref 286)])), (W [])⟩
def o290 (P : Params) : Obj := ⟨(.type "builtin_function_or_method"), none, (.fields (V [(.builtin "object.__init_subclass__"), (.ref 286)])), (W [])⟩
def o291 (P : Params) : Obj := ⟨(.type "tuple"), none, (.seq (V [(.type "IndexError")]) 0), (W [])⟩
def o292 (P : Params) : Obj := ⟨(.type "builtin_function_or_method"), none, (.fields (V [(.builtin "type.__prepare__"), (.type "type")])), (W [])⟩
def o293 (P : Params) : Obj := ⟨(.type "dict"), none, (.dict (D [E P (S "__module__") 547 (.str (S "nearcall.errors") 194), E P (S "__qualname__") 549 (.str (S "NothingLeft") 548), E P (S "__firstlineno__") 551 (.int 70 550), E P (S "__init__") 558 (.ref 303), E P (S "__static_attributes__") 560 (.ref 304)]) 5), (W [])⟩
def o294 (P : Params) : Obj := ⟨(.type "tuple"), none, (.seq (V []) 0), (W [])⟩
def o295 (P : Params) : Obj := ⟨.none, none, (.fields (V [(.int 72 0), (.int 4 0), (.ref 302)])), (W [])⟩
def o296 (P : Params) : Obj := ⟨(.type "code"), none, (.fields (V [(.str (S "NothingLeft") 542), (.str (S "NothingLeft") 543), (.str (S "/claim/cut.py") 544), (.int 70 0), (.int 0 0), (.int 0 0), (.int 0 0), (.int 0 0), (.ref 293), (.bool false), (.int 181 0), (.ref 294), .none, .none, .none, .none, (.int 545 0), (.int 70 0), (.str (S "/claim/cut.py") 546)])), (W [])⟩
def o297 (P : Params) : Obj := ⟨(.type "frame"), none, .plain, (W [(some (.ref 295)), (some (.ref 3)), (some (.ref 292)), none, (some (.str (S "nearcall.errors") 194)), none, (some (.ref 0))])⟩
def o298 (P : Params) : Obj := ⟨(.type "tuple"), none, (.seq (V []) 0), (W [])⟩
def o299 (P : Params) : Obj := ⟨.none, none, (.fields (V [])), (W [])⟩
def o300 (P : Params) : Obj := ⟨(.type "tuple"), none, (.seq (V [(.str (S "self") 555)]) 0), (W [])⟩
def o301 (P : Params) : Obj := ⟨(.type "tuple"), none, (.seq (V []) 0), (W [])⟩
def o302 (P : Params) : Obj := ⟨.none, none, (.func ⟨(S "__init__"), (S "NothingLeft.__init__"), (defArgs (inClass (ST 16) 0)), (.stmts (defBody (inClass (ST 16) 0))), (defScope (inClass (ST 16) 0)), 0, [], .none, .none, .none, .none, none, .none, .none, 0⟩), (W [])⟩
def o303 (P : Params) : Obj := ⟨(.type "code"), none, (.fields (V [(.str (S "__init__") 552), (.str (S "NothingLeft.__init__") 553), (.str (S "/claim/cut.py") 554), (.int 72 0), (.int 1 0), (.int 0 0), (.int 0 0), (.int 3 0), (.ref 297), (.bool true), (.int 181 0), (.ref 298), .none, (.ref 299), (.ref 300), (.ref 301), (.int 556 0), (.int 72 0), (.str (S "/claim/cut.py") 557)])), (W [])⟩
def o304 (P : Params) : Obj := ⟨(.type "function"), none, (.func ⟨(S "__init__"), (S "NothingLeft.__init__"), (defArgs (inClass (ST 16) 0)), (.stmts (defBody (inClass (ST 16) 0))), (defScope (inClass (ST 16) 0)), 3, [], .none, .none, .none, (.str (S "nearcall.errors") 194), none, (.ref 302), .none, 0⟩), (W [])⟩
def o305 (P : Params) : Obj := ⟨(.type "tuple"), none, (.seq (V [(.str (S "word") 559)]) 0), (W [])⟩
def o306 (P : Params) : Obj := ⟨(.type "dict"), none, (.dict (D [E P (S "__module__") 547 (.str (S "nearcall.errors") 194), E P (S "__firstlineno__") 551 (.int 70 550), E P (S "__init__") 558 (.ref 303), E P (S "__static_attributes__") 560 (.ref 304), E P (S "__weakref__") 562 (.ref 307), E P (S "__doc__") 563 .none]) 3), (W [])⟩
def o307 (P : Params) : Obj := ⟨(.type "type"), none, (.cls ⟨(S "NothingLeft"), [(.type "IndexError")], [(.ref 306), (.type "IndexError"), (.type "LookupError"), (.type "Exception"), (.type "BaseException"), (.type "object")], 305, (S "NothingLeft"), true, [], [], false, none, false⟩), (W [(some (.ref 290)), none, (some (.str (S "NothingLeft") 540)), (some (.str (S "NothingLeft") 548)), (some (.builtin "IndexError.__new__")), (some (.bool true))])⟩
def o308 (P : Params) : Obj := ⟨(.type "getset_descriptor"), none, (.fields (V [(.str (S "__weakref__") 561), (.ref 306), (.builtin "ExceptionGroup.__weakref__"), .none])), (W [])⟩
def o309 (P : Params) : Obj := ⟨(.type "super"), none, (.fields (V [(.ref 306), (.ref 306), (.ref 306)])), (W [])⟩
def o310 (P : Params) : Obj := ⟨(.type "builtin_function_or_method"), none, (.fields (V [(.builtin "object.__init_subclass__"), (.ref 306)])), (W [])⟩
def o311 (P : Params) : Obj := ⟨(.type "tuple"), none, (.seq (V []) 0), (W [])⟩
def o312 (P : Params) : Obj := ⟨.none, none, (.fields (V [])), (W [])⟩
def o313 (P : Params) : Obj := ⟨(.type "tuple"), none, (.seq (V [(.str (S "side") 575)]) 0), (W [])⟩
def o314 (P : Params) : Obj := ⟨(.type "tuple"), none, (.seq (V []) 0), (W [])⟩
def o315 (P : Params) : Obj := ⟨.none, none, (.func ⟨(S "other"), (S "other"), (defArgs (ST 19)), (.stmts (defBody (ST 19))), (defScope (ST 19)), 0, [], .none, .none, .none, .none, none, .none, .none, 0⟩), (W [])⟩
def o316 (P : Params) : Obj := ⟨(.type "code"), none, (.fields (V [(.str (S "other") 572), (.str (S "other") 573), (.str (S "/claim/cut.py") 574), (.int 77 0), (.int 1 0), (.int 0 0), (.int 0 0), (.int 3 0), (.ref 310), (.bool true), (.int 181 0), (.ref 311), .none, (.ref 312), (.ref 313), (.ref 314), (.int 576 0), (.int 77 0), (.str (S "/claim/cut.py") 577)])), (W [])⟩
def o317 (P : Params) : Obj := ⟨(.type "function"), none, (.func ⟨(S "other"), (S "other"), (defArgs (ST 19)), (.stmts (defBody (ST 19))), (defScope (ST 19)), 3, [], .none, .none, .none, (.str (S "nearcall.halls") 568), none, (.ref 315), .none, 0⟩), (W [])⟩
def o318 (P : Params) : Obj := ⟨(.type "tuple"), none, (.seq (V []) 0), (W [])⟩
def o319 (P : Params) : Obj := ⟨.none, none, (.fields (V [])), (W [])⟩
def o320 (P : Params) : Obj := ⟨(.type "tuple"), none, (.seq (V [(.str (S "walls") 582)]) 0), (W [])⟩
def o321 (P : Params) : Obj := ⟨(.type "tuple"), none, (.seq (V []) 0), (W [])⟩
def o322 (P : Params) : Obj := ⟨.none, none, (.func ⟨(S "sides_of"), (S "sides_of"), (defArgs (ST 20)), (.stmts (defBody (ST 20))), (defScope (ST 20)), 0, [], .none, .none, .none, .none, none, .none, .none, 0⟩), (W [])⟩
def o323 (P : Params) : Obj := ⟨(.type "code"), none, (.fields (V [(.str (S "sides_of") 579), (.str (S "sides_of") 580), (.str (S "/claim/cut.py") 581), (.int 79 0), (.int 1 0), (.int 0 0), (.int 0 0), (.int 3 0), (.ref 317), (.bool true), (.int 181 0), (.ref 318), .none, (.ref 319), (.ref 320), (.ref 321), (.int 583 0), (.int 79 0), (.str (S "/claim/cut.py") 584)])), (W [])⟩
def o324 (P : Params) : Obj := ⟨(.type "function"), none, (.func ⟨(S "sides_of"), (S "sides_of"), (defArgs (ST 20)), (.stmts (defBody (ST 20))), (defScope (ST 20)), 3, [], .none, .none, .none, (.str (S "nearcall.halls") 568), none, (.ref 322), .none, 0⟩), (W [])⟩
def o325 (P : Params) : Obj := ⟨(.type "tuple"), none, (.seq (V []) 0), (W [])⟩
def o326 (P : Params) : Obj := ⟨.none, none, (.fields (V [])), (W [])⟩
def o327 (P : Params) : Obj := ⟨.none, none, (.func ⟨(S "by_walls"), (S "by_walls"), (defArgs (ST 21)), (.stmts (defBody (ST 21))), (defScope (ST 21)), 0, [], .none, .none, .none, .none, none, .none, .none, 0⟩), (W [])⟩
def o328 (P : Params) : Obj := ⟨(.type "code"), none, (.fields (V [(.str (S "by_walls") 586), (.str (S "by_walls") 587), (.str (S "/claim/cut.py") 588), (.int 81 0), (.int 2 0), (.int 0 0), (.int 0 0), (.int 3 0), (.ref 324), (.bool true), (.int 181 0), (.ref 325), .none, .none, .none, (.ref 326), (.int 589 0), (.int 81 0), (.str (S "/claim/cut.py") 590)])), (W [])⟩
def o329 (P : Params) : Obj := ⟨(.type "function"), none, (.func ⟨(S "by_walls"), (S "by_walls"), (defArgs (ST 21)), (.stmts (defBody (ST 21))), (defScope (ST 21)), 3, [], .none, .none, .none, (.str (S "nearcall.halls") 568), none, (.ref 327), .none, 0⟩), (W [])⟩
def o330 (P : Params) : Obj := ⟨(.type "tuple"), none, (.seq (V []) 0), (W [])⟩
def o331 (P : Params) : Obj := ⟨.none, none, (.fields (V [])), (W [])⟩
def o332 (P : Params) : Obj := ⟨.none, none, (.func ⟨(S "is_walls"), (S "is_walls"), (defArgs (ST 22)), (.stmts (defBody (ST 22))), (defScope (ST 22)), 0, [], .none, .none, .none, .none, none, .none, .none, 0⟩), (W [])⟩
def o333 (P : Params) : Obj := ⟨(.type "code"), none, (.fields (V [(.str (S "is_walls") 592), (.str (S "is_walls") 593), (.str (S "/claim/cut.py") 594), (.int 83 0), (.int 1 0), (.int 0 0), (.int 0 0), (.int 3 0), (.ref 329), (.bool true), (.int 181 0), (.ref 330), .none, .none, .none, (.ref 331), (.int 595 0), (.int 83 0), (.str (S "/claim/cut.py") 596)])), (W [])⟩
def o334 (P : Params) : Obj := ⟨(.type "function"), none, (.func ⟨(S "is_walls"), (S "is_walls"), (defArgs (ST 22)), (.stmts (defBody (ST 22))), (defScope (ST 22)), 3, [], .none, .none, .none, (.str (S "nearcall.halls") 568), none, (.ref 332), .none, 0⟩), (W [])⟩
def o335 (P : Params) : Obj := ⟨(.type "tuple"), none, (.seq (V []) 0), (W [])⟩
def o336 (P : Params) : Obj := ⟨.none, none, (.fields (V [])), (W [])⟩
def o337 (P : Params) : Obj := ⟨(.type "tuple"), none, (.seq (V [(.str (S "walls") 601), (.str (S "bar") 602), (.str (S "sides") 603)]) 0), (W [])⟩
def o338 (P : Params) : Obj := ⟨(.type "tuple"), none, (.seq (V []) 0), (W [])⟩
def o339 (P : Params) : Obj := ⟨.none, none, (.func ⟨(S "is_bar"), (S "is_bar"), (defArgs (ST 23)), (.stmts (defBody (ST 23))), (defScope (ST 23)), 0, [], .none, .none, .none, .none, none, .none, .none, 0⟩), (W [])⟩
def o340 (P : Params) : Obj := ⟨(.type "code"), none, (.fields (V [(.str (S "is_bar") 598), (.str (S "is_bar") 599), (.str (S "/claim/cut.py") 600), (.int 86 0), (.int 2 0), (.int 0 0), (.int 0 0), (.int 3 0), (.ref 334), (.bool true), (.int 181 0), (.ref 335), .none, (.ref 336), (.ref 337), (.ref 338), (.int 604 0), (.int 86 0), (.str (S "/claim/cut.py") 605)])), (W [])⟩
def o341 (P : Params) : Obj := ⟨(.type "function"), none, (.func ⟨(S "is_bar"), (S "is_bar"), (defArgs (ST 23)), (.stmts (defBody (ST 23))), (defScope (ST 23)), 3, [], .none, .none, .none, (.str (S "nearcall.halls") 568), none, (.ref 339), .none, 0⟩), (W [])⟩
def o342 (P : Params) : Obj := ⟨(.type "tuple"), none, (.seq (V []) 0), (W [])⟩
def o343 (P : Params) : Obj := ⟨.none, none, (.fields (V [])), (W [])⟩
def o344 (P : Params) : Obj := ⟨(.type "tuple"), none, (.seq (V [(.str (S "walls") 610)]) 0), (W [])⟩
def o345 (P : Params) : Obj := ⟨(.type "tuple"), none, (.seq (V []) 0), (W [])⟩
def o346 (P : Params) : Obj := ⟨.none, none, (.func ⟨(S "check_walls"), (S "check_walls"), (defArgs (ST 24)), (.stmts (defBody (ST 24))), (defScope (ST 24)), 0, [], .none, .none, .none, .none, none, .none, .none, 0⟩), (W [])⟩
def o347 (P : Params) : Obj := ⟨(.type "code"), none, (.fields (V [(.str (S "check_walls") 607), (.str (S "check_walls") 608), (.str (S "/claim/cut.py") 609), (.int 91 0), (.int 1 0), (.int 0 0), (.int 0 0), (.int 3 0), (.ref 341), (.bool true), (.int 181 0), (.ref 342), .none, (.ref 343), (.ref 344), (.ref 345), (.int 611 0), (.int 91 0), (.str (S "/claim/cut.py") 612)])), (W [])⟩
def o348 (P : Params) : Obj := ⟨(.type "function"), none, (.func ⟨(S "check_walls"), (S "check_walls"), (defArgs (ST 24)), (.stmts (defBody (ST 24))), (defScope (ST 24)), 3, [], .none, .none, .none, (.str (S "nearcall.halls") 568), none, (.ref 346), .none, 0⟩), (W [])⟩
def o349 (P : Params) : Obj := ⟨(.type "tuple"), none, (.seq (V []) 0), (W [])⟩
def o350 (P : Params) : Obj := ⟨.none, none, (.fields (V [])), (W [])⟩
def o351 (P : Params) : Obj := ⟨(.type "tuple"), none, (.seq (V [(.str (S "walls") 617), (.str (S "bars") 618), (.str (S "at") 619), (.str (S "bar") 620)]) 0), (W [])⟩
def o352 (P : Params) : Obj := ⟨(.type "tuple"), none, (.seq (V []) 0), (W [])⟩
def o353 (P : Params) : Obj := ⟨.none, none, (.func ⟨(S "check_bars"), (S "check_bars"), (defArgs (ST 25)), (.stmts (defBody (ST 25))), (defScope (ST 25)), 0, [], .none, .none, .none, .none, none, .none, .none, 0⟩), (W [])⟩
def o354 (P : Params) : Obj := ⟨(.type "code"), none, (.fields (V [(.str (S "check_bars") 614), (.str (S "check_bars") 615), (.str (S "/claim/cut.py") 616), (.int 94 0), (.int 2 0), (.int 0 0), (.int 0 0), (.int 3 0), (.ref 348), (.bool true), (.int 181 0), (.ref 349), .none, (.ref 350), (.ref 351), (.ref 352), (.int 621 0), (.int 94 0), (.str (S "/claim/cut.py") 622)])), (W [])⟩
def o355 (P : Params) : Obj := ⟨(.type "function"), none, (.func ⟨(S "check_bars"), (S "check_bars"), (defArgs (ST 25)), (.stmts (defBody (ST 25))), (defScope (ST 25)), 3, [], .none, .none, .none, (.str (S "nearcall.halls") 568), none, (.ref 353), .none, 0⟩), (W [])⟩
def o356 (P : Params) : Obj := ⟨(.type "tuple"), none, (.seq (V []) 0), (W [])⟩
def o357 (P : Params) : Obj := ⟨.none, none, (.fields (V [])), (W [])⟩
def o358 (P : Params) : Obj := ⟨(.type "tuple"), none, (.seq (V [(.str (S "walls") 627), (.str (S "side") 628)]) 0), (W [])⟩
def o359 (P : Params) : Obj := ⟨(.type "tuple"), none, (.seq (V []) 0), (W [])⟩
def o360 (P : Params) : Obj := ⟨.none, none, (.func ⟨(S "check_side"), (S "check_side"), (defArgs (ST 26)), (.stmts (defBody (ST 26))), (defScope (ST 26)), 0, [], .none, .none, .none, .none, none, .none, .none, 0⟩), (W [])⟩
def o361 (P : Params) : Obj := ⟨(.type "code"), none, (.fields (V [(.str (S "check_side") 624), (.str (S "check_side") 625), (.str (S "/claim/cut.py") 626), (.int 98 0), (.int 2 0), (.int 0 0), (.int 0 0), (.int 3 0), (.ref 355), (.bool true), (.int 181 0), (.ref 356), .none, (.ref 357), (.ref 358), (.ref 359), (.int 629 0), (.int 98 0), (.str (S "/claim/cut.py") 630)])), (W [])⟩
def o362 (P : Params) : Obj := ⟨(.type "function"), none, (.func ⟨(S "check_side"), (S "check_side"), (defArgs (ST 26)), (.stmts (defBody (ST 26))), (defScope (ST 26)), 3, [], .none, .none, .none, (.str (S "nearcall.halls") 568), none, (.ref 360), .none, 0⟩), (W [])⟩
def o363 (P : Params) : Obj := ⟨(.type "tuple"), none, (.seq (V []) 0), (W [])⟩
def o364 (P : Params) : Obj := ⟨.none, none, (.fields (V [])), (W [])⟩
def o365 (P : Params) : Obj := ⟨(.type "tuple"), none, (.seq (V [(.str (S "hall") 635), (.str (S "room") 636)]) 0), (W [])⟩
def o366 (P : Params) : Obj := ⟨(.type "tuple"), none, (.seq (V []) 0), (W [])⟩
def o367 (P : Params) : Obj := ⟨.none, none, (.func ⟨(S "check_room"), (S "check_room"), (defArgs (ST 27)), (.stmts (defBody (ST 27))), (defScope (ST 27)), 0, [], .none, .none, .none, .none, none, .none, .none, 0⟩), (W [])⟩
def o368 (P : Params) : Obj := ⟨(.type "code"), none, (.fields (V [(.str (S "check_room") 632), (.str (S "check_room") 633), (.str (S "/claim/cut.py") 634), (.int 101 0), (.int 2 0), (.int 0 0), (.int 0 0), (.int 3 0), (.ref 362), (.bool true), (.int 181 0), (.ref 363), .none, (.ref 364), (.ref 365), (.ref 366), (.int 637 0), (.int 101 0), (.str (S "/claim/cut.py") 638)])), (W [])⟩
def o369 (P : Params) : Obj := ⟨(.type "function"), none, (.func ⟨(S "check_room"), (S "check_room"), (defArgs (ST 27)), (.stmts (defBody (ST 27))), (defScope (ST 27)), 3, [], .none, .none, .none, (.str (S "nearcall.halls") 568), none, (.ref 367), .none, 0⟩), (W [])⟩
def o370 (P : Params) : Obj := ⟨(.type "tuple"), none, (.seq (V []) 0), (W [])⟩
def o371 (P : Params) : Obj := ⟨.none, none, (.fields (V [])), (W [])⟩
def o372 (P : Params) : Obj := ⟨.none, none, (.func ⟨(S "straight_from"), (S "straight_from"), (defArgs (ST 28)), (.stmts (defBody (ST 28))), (defScope (ST 28)), 0, [], .none, .none, .none, .none, none, .none, .none, 0⟩), (W [])⟩
def o373 (P : Params) : Obj := ⟨(.type "code"), none, (.fields (V [(.str (S "straight_from") 640), (.str (S "straight_from") 641), (.str (S "/claim/cut.py") 642), (.int 104 0), (.int 2 0), (.int 0 0), (.int 0 0), (.int 3 0), (.ref 369), (.bool true), (.int 181 0), (.ref 370), .none, .none, .none, (.ref 371), (.int 643 0), (.int 104 0), (.str (S "/claim/cut.py") 644)])), (W [])⟩
def o374 (P : Params) : Obj := ⟨(.type "function"), none, (.func ⟨(S "straight_from"), (S "straight_from"), (defArgs (ST 28)), (.stmts (defBody (ST 28))), (defScope (ST 28)), 3, [], .none, .none, .none, (.str (S "nearcall.halls") 568), none, (.ref 372), .none, 0⟩), (W [])⟩
def objs_3 (P : Params) : List Obj :=
  [boot_o_0 P, boot_o_1 P, o248 P, o249 P, boot_o_4 P, boot_o_5 P, boot_o_6 P, boot_o_7 P, boot_o_8 P, boot_o_9 P, boot_o_10 P, o0 P, o250 P, o2 P, o3 P, o6 P, o7 P, o8 P, o9 P, o10 P, o11 P, o12 P, o13 P, o14 P, o15 P, o16 P, o17 P, o18 P, o19 P, o20 P, o21 P, o22 P, o23 P, o24 P, o25 P, o26 P, o27 P, o28 P, o251 P, o30 P] ++ (
  [o31 P, o32 P, o33 P, o34 P, o35 P, o36 P, o37 P, o38 P, o39 P, o40 P, o41 P, o42 P, o43 P, o44 P, o45 P, o46 P, o47 P, o48 P, o49 P, o50 P, o51 P, o52 P, o53 P, o54 P, o55 P, o56 P, o57 P, o58 P, o59 P, o60 P, o61 P, o62 P, o63 P, o64 P, o65 P, o66 P, o67 P, o68 P, o69 P, o70 P] ++ (
  [o71 P, o72 P, o73 P, o74 P, o75 P, o76 P, o77 P, o78 P, o79 P, o80 P, o81 P, o82 P, o83 P, o84 P, o85 P, o86 P, o87 P, o88 P, o89 P, o93 P, o94 P, o95 P, o96 P, o97 P, o98 P, o99 P, o100 P, o101 P, o102 P, o103 P, o104 P, o105 P, o106 P, o107 P, o108 P, o109 P, o110 P, o111 P, o112 P, o113 P] ++ (
  [o114 P, o115 P, o116 P, o117 P, o118 P, o119 P, o120 P, o121 P, o122 P, o123 P, o124 P, o125 P, o126 P, o127 P, o128 P, o129 P, o130 P, o131 P, o132 P, o133 P, o134 P, o135 P, o136 P, o137 P, o138 P, o139 P, o140 P, o141 P, o142 P, o143 P, o144 P, o145 P, o146 P, o147 P, o148 P, o149 P, o150 P, o151 P, o152 P, o153 P] ++ (
  [o154 P, o155 P, o156 P, o157 P, o158 P, o159 P, o160 P, o161 P, o162 P, o163 P, o164 P, o165 P, o166 P, o167 P, o168 P, o172 P, o173 P, o174 P, o175 P, o176 P, o177 P, o178 P, o179 P, o180 P, o181 P, o182 P, o183 P, o184 P, o185 P, o186 P, o187 P, o188 P, o189 P, o190 P, o191 P, o192 P, o193 P, o194 P, o195 P, o196 P] ++ (
  [o197 P, o198 P, o199 P, o200 P, o201 P, o202 P, o203 P, o204 P, o205 P, o206 P, o207 P, o208 P, o209 P, o210 P, o211 P, o212 P, o213 P, o214 P, o215 P, o216 P, o217 P, o218 P, o219 P, o220 P, o221 P, o222 P, o223 P, o224 P, o225 P, o226 P, o227 P, o228 P, o229 P, o230 P, o231 P, o232 P, o233 P, o234 P, o235 P, o236 P] ++ (
  [o237 P, o238 P, o239 P, o240 P, o241 P, o242 P, o243 P, o244 P, o245 P, o246 P, o247 P, o252 P, o253 P, o254 P, o255 P, o256 P, o257 P, o258 P, o259 P, o260 P, o261 P, o262 P, o263 P, o264 P, o265 P, o266 P, o267 P, o268 P, o269 P, o270 P, o271 P, o272 P, o273 P, o274 P, o275 P, o276 P, o277 P, o278 P, o279 P, o280 P] ++ (
  [o281 P, o282 P, o283 P, o284 P, o285 P, o286 P, o287 P, o288 P, o289 P, o290 P, o291 P, o292 P, o293 P, o294 P, o295 P, o296 P, o297 P, o298 P, o299 P, o300 P, o301 P, o302 P, o303 P, o304 P, o305 P, o306 P, o307 P, o308 P, o309 P, o310 P, o311 P, o312 P, o313 P, o314 P, o315 P, o316 P, o317 P, o318 P, o319 P, o320 P] ++ (
  [o321 P, o322 P, o323 P, o324 P, o325 P, o326 P, o327 P, o328 P, o329 P, o330 P, o331 P, o332 P, o333 P, o334 P, o335 P, o336 P, o337 P, o338 P, o339 P, o340 P, o341 P, o342 P, o343 P, o344 P, o345 P, o346 P, o347 P, o348 P, o349 P, o350 P, o351 P, o352 P, o353 P, o354 P, o355 P, o356 P, o357 P, o358 P, o359 P, o360 P] ++ (
  [o361 P, o362 P, o363 P, o364 P, o365 P, o366 P, o367 P, o368 P, o369 P, o370 P, o371 P, o372 P, o373 P, o374 P])))))))))
def o375 (P : Params) : Obj := ⟨(.type "dict"), none, (.dict (D [E P (S "__name__") 165 (.str (S "nearcall.turns") 871), E P (S "__doc__") 166 .none, E P (S "__package__") 167 .none, E P (S "__loader__") 168 (.builtin "__main__.__loader__#opaque"), E P (S "__spec__") 169 .none, E P (S "__annotations__") 170 (.ref 6), E P (S "__builtins__") 171 (.ref 4), E P (S "__file__") 173 (.str (S "/claim/cut.py") 172), E P (S "__cached__") 174 .none, E P (S "_wall") 193 (.ref 21), E P (S "HallError") 222 (.ref 38), E P (S "BadWalls") 245 (.ref 58), E P (S "BadBar") 270 (.ref 77), E P (S "BadSide") 293 (.ref 96), E P (S "Fixed") 318 (.ref 115), E P (S "Alike") 345 (.ref 134), E P (S "BadRoom") 368 (.ref 153), E P (S "BadPart") 391 (.ref 172), E P (S "Empty") 416 (.ref 191), E P (S "BadTurn") 439 (.ref 210), E P (S "BadTable") 464 (.ref 229), E P (S "OtherHall") 487 (.ref 248), E P (S "TooMany") 512 (.ref 267), E P (S "Missing") 539 (.ref 286), E P (S "NothingLeft") 567 (.ref 306), E P (S "WIDEST") 571 (.int 12 570), E P (S "other") 578 (.ref 316), E P (S "sides_of") 585 (.ref 323), E P (S "by_walls") 591 (.ref 328), E P (S "is_walls") 597 (.ref 333), E P (S "is_bar") 606 (.ref 340), E P (S "check_walls") 613 (.ref 347), E P (S "check_bars") 623 (.ref 354), E P (S "check_side") 631 (.ref 361), E P (S "check_room") 639 (.ref 368), E P (S "straight_from") 645 (.ref 373), E P (S "reached") 658 (.ref 380), E P (S "all_forced") 664 (.ref 385), E P (S "check_fixed") 672 (.ref 392), E P (S "check_alike") 681 (.ref 399), E P (S "Hall") 828 (.ref 517), E P (S "is_part") 841 (.ref 528), E P (S "check_part") 849 (.ref 535), E P (S "all_forced_by") 855 (.ref 540), E P (S "torn_walls") 861 (.ref 545), E P (S "shut") 870 (.ref 552)]) 46), (W [])⟩
def o376 (P : Params) : Obj := ⟨.none, none, (.fields (V [(.int 1 0), (.int 0 0), (.ref 20), (.int 5 0), (.int 0 0), (.ref 27), (.int 10 0), (.int 0 0), (.ref 47), (.int 14 0), (.int 0 0), (.ref 66), (.int 19 0), (.int 0 0), (.ref 85), (.int 23 0), (.int 0 0), (.ref 104), (.int 28 0), (.int 0 0), (.ref 123), (.int 34 0), (.int 0 0), (.ref 142), (.int 38 0), (.int 0 0), (.ref 161), (.int 42 0), (.int 0 0), (.ref 180), (.int 47 0), (.int 0 0), (.ref 199), (.int 51 0), (.int 0 0), (.ref 218), (.int 56 0), (.int 0 0), (.ref 237), (.int 60 0), (.int 0 0), (.ref 256), (.int 65 0), (.int 0 0), (.ref 275), (.int 70 0), (.int 0 0), (.ref 295), (.int 77 0), (.int 0 0), (.ref 315), (.int 79 0), (.int 0 0), (.ref 322), (.int 81 0), (.int 0 0), (.ref 327), (.int 83 0), (.int 0 0), (.ref 332), (.int 86 0), (.int 0 0), (.ref 339), (.int 91 0), (.int 0 0), (.ref 346), (.int 94 0), (.int 0 0), (.ref 353), (.int 98 0), (.int 0 0), (.ref 360), (.int 101 0), (.int 0 0), (.ref 367), (.int 104 0), (.int 0 0), (.ref 372), (.int 110 0), (.int 0 0), (.ref 379), (.int 122 0), (.int 0 0), (.ref 384), (.int 125 0), (.int 0 0), (.ref 391), (.int 129 0), (.int 0 0), (.ref 398), (.int 134 0), (.int 0 0), (.ref 405), (.int 200 0), (.int 0 0), (.ref 527), (.int 208 0), (.int 0 0), (.ref 534), (.int 211 0), (.int 0 0), (.ref 539), (.int 213 0), (.int 0 0), (.ref 544), (.int 216 0), (.int 0 0), (.ref 551)])), (W [])⟩
def o377 (P : Params) : Obj := ⟨(.type "tuple"), none, (.seq (V []) 0), (W [])⟩
def o378 (P : Params) : Obj := ⟨.none, none, (.fields (V [])), (W [])⟩
def o379 (P : Params) : Obj := ⟨(.type "tuple"), none, (.seq (V [(.str (S "straight") 649), (.str (S "one") 650), (.str (S "ahead") 651), (.str (S "wave") 652), (.str (S "later") 653), (.str (S "side") 654), (.str (S "met") 655)]) 0), (W [])⟩
def o380 (P : Params) : Obj := ⟨(.type "tuple"), none, (.seq (V []) 0), (W [])⟩
def o381 (P : Params) : Obj := ⟨.none, none, (.func ⟨(S "reached"), (S "reached"), (defArgs (ST 29)), (.stmts (defBody (ST 29))), (defScope (ST 29)), 0, [], .none, .none, .none, .none, none, .none, .none, 0⟩), (W [])⟩
def o382 (P : Params) : Obj := ⟨(.type "code"), none, (.fields (V [(.str (S "reached") 646), (.str (S "reached") 647), (.str (S "/claim/cut.py") 648), (.int 110 0), (.int 2 0), (.int 0 0), (.int 0 0), (.int 3 0), (.ref 374), (.bool true), (.int 181 0), (.ref 375), .none, (.ref 376), (.ref 377), (.ref 378), (.int 656 0), (.int 110 0), (.str (S "/claim/cut.py") 657)])), (W [])⟩
def o383 (P : Params) : Obj := ⟨(.type "function"), none, (.func ⟨(S "reached"), (S "reached"), (defArgs (ST 29)), (.stmts (defBody (ST 29))), (defScope (ST 29)), 3, [], .none, .none, .none, (.str (S "nearcall.halls") 568), none, (.ref 379), .none, 0⟩), (W [])⟩
def o384 (P : Params) : Obj := ⟨(.type "tuple"), none, (.seq (V []) 0), (W [])⟩
def o385 (P : Params) : Obj := ⟨.none, none, (.fields (V [])), (W [])⟩
def o386 (P : Params) : Obj := ⟨.none, none, (.func ⟨(S "all_forced"), (S "all_forced"), (defArgs (ST 30)), (.stmts (defBody (ST 30))), (defScope (ST 30)), 0, [], .none, .none, .none, .none, none, .none, .none, 0⟩), (W [])⟩
def o387 (P : Params) : Obj := ⟨(.type "code"), none, (.fields (V [(.str (S "all_forced") 659), (.str (S "all_forced") 660), (.str (S "/claim/cut.py") 661), (.int 122 0), (.int 2 0), (.int 0 0), (.int 0 0), (.int 3 0), (.ref 381), (.bool true), (.int 181 0), (.ref 382), .none, .none, .none, (.ref 383), (.int 662 0), (.int 122 0), (.str (S "/claim/cut.py") 663)])), (W [])⟩
def o388 (P : Params) : Obj := ⟨(.type "function"), none, (.func ⟨(S "all_forced"), (S "all_forced"), (defArgs (ST 30)), (.stmts (defBody (ST 30))), (defScope (ST 30)), 3, [], .none, .none, .none, (.str (S "nearcall.halls") 568), none, (.ref 384), .none, 0⟩), (W [])⟩
def o389 (P : Params) : Obj := ⟨(.type "tuple"), none, (.seq (V []) 0), (W [])⟩
def o390 (P : Params) : Obj := ⟨.none, none, (.fields (V [])), (W [])⟩
def o391 (P : Params) : Obj := ⟨(.type "tuple"), none, (.seq (V [(.str (S "forced_by") 668), (.str (S "side") 669)]) 0), (W [])⟩
def o392 (P : Params) : Obj := ⟨(.type "tuple"), none, (.seq (V []) 0), (W [])⟩
def o393 (P : Params) : Obj := ⟨.none, none, (.func ⟨(S "check_fixed"), (S "check_fixed"), (defArgs (ST 31)), (.stmts (defBody (ST 31))), (defScope (ST 31)), 0, [], .none, .none, .none, .none, none, .none, .none, 0⟩), (W [])⟩
def o394 (P : Params) : Obj := ⟨(.type "code"), none, (.fields (V [(.str (S "check_fixed") 665), (.str (S "check_fixed") 666), (.str (S "/claim/cut.py") 667), (.int 125 0), (.int 1 0), (.int 0 0), (.int 0 0), (.int 3 0), (.ref 386), (.bool true), (.int 181 0), (.ref 387), .none, (.ref 388), (.ref 389), (.ref 390), (.int 670 0), (.int 125 0), (.str (S "/claim/cut.py") 671)])), (W [])⟩
def o395 (P : Params) : Obj := ⟨(.type "function"), none, (.func ⟨(S "check_fixed"), (S "check_fixed"), (defArgs (ST 31)), (.stmts (defBody (ST 31))), (defScope (ST 31)), 3, [], .none, .none, .none, (.str (S "nearcall.halls") 568), none, (.ref 391), .none, 0⟩), (W [])⟩
def o396 (P : Params) : Obj := ⟨(.type "tuple"), none, (.seq (V []) 0), (W [])⟩
def o397 (P : Params) : Obj := ⟨.none, none, (.fields (V [])), (W [])⟩
def o398 (P : Params) : Obj := ⟨(.type "tuple"), none, (.seq (V [(.str (S "forced_by") 676), (.str (S "side") 677), (.str (S "met") 678)]) 0), (W [])⟩
def o399 (P : Params) : Obj := ⟨(.type "tuple"), none, (.seq (V []) 0), (W [])⟩
def o400 (P : Params) : Obj := ⟨.none, none, (.func ⟨(S "check_alike"), (S "check_alike"), (defArgs (ST 32)), (.stmts (defBody (ST 32))), (defScope (ST 32)), 0, [], .none, .none, .none, .none, none, .none, .none, 0⟩), (W [])⟩
def o401 (P : Params) : Obj := ⟨(.type "code"), none, (.fields (V [(.str (S "check_alike") 673), (.str (S "check_alike") 674), (.str (S "/claim/cut.py") 675), (.int 129 0), (.int 1 0), (.int 0 0), (.int 0 0), (.int 3 0), (.ref 393), (.bool true), (.int 181 0), (.ref 394), .none, (.ref 395), (.ref 396), (.ref 397), (.int 679 0), (.int 129 0), (.str (S "/claim/cut.py") 680)])), (W [])⟩
def o402 (P : Params) : Obj := ⟨(.type "function"), none, (.func ⟨(S "check_alike"), (S "check_alike"), (defArgs (ST 32)), (.stmts (defBody (ST 32))), (defScope (ST 32)), 3, [], .none, .none, .none, (.str (S "nearcall.halls") 568), none, (.ref 398), .none, 0⟩), (W [])⟩
def o403 (P : Params) : Obj := ⟨(.type "tuple"), none, (.seq (V []) 0), (W [])⟩
def o404 (P : Params) : Obj := ⟨(.type "builtin_function_or_method"), none, (.fields (V [(.builtin "type.__prepare__"), (.type "type")])), (W [])⟩
def o405 (P : Params) : Obj := ⟨(.type "dict"), none, (.dict (D [E P (S "__module__") 689 (.str (S "nearcall.halls") 568), E P (S "__qualname__") 691 (.str (S "Hall") 690), E P (S "__firstlineno__") 693 (.int 134 692), E P (S "__init__") 703 (.ref 415), E P (S "walls") 710 (.ref 422), E P (S "bars") 717 (.ref 429), E P (S "forced") 725 (.ref 436), E P (S "forces") 734 (.ref 443), E P (S "is_room") 740 (.ref 448), E P (S "rooms") 746 (.ref 453), E P (S "goes_with") 752 (.ref 458), E P (S "doors") 760 (.ref 465), E P (S "steps") 769 (.ref 472), E P (S "way") 778 (.ref 479), E P (S "nearer") 787 (.ref 486), E P (S "__eq__") 795 (.ref 493), E P (S "__len__") 802 (.ref 500), E P (S "__str__") 809 (.ref 507), E P (S "__repr__") 816 (.ref 514), E P (S "__static_attributes__") 820 (.ref 515)]) 20), (W [])⟩
def o406 (P : Params) : Obj := ⟨(.type "tuple"), none, (.seq (V []) 0), (W [])⟩
def o407 (P : Params) : Obj := ⟨.none, none, (.fields (V [(.int 136 0), (.int 4 0), (.ref 414), (.int 146 0), (.int 4 0), (.ref 421), (.int 149 0), (.int 4 0), (.ref 428), (.int 152 0), (.int 4 0), (.ref 435), (.int 156 0), (.int 4 0), (.ref 442), (.int 161 0), (.int 4 0), (.ref 447), (.int 166 0), (.int 4 0), (.ref 452), (.int 172 0), (.int 4 0), (.ref 457), (.int 176 0), (.int 4 0), (.ref 464), (.int 179 0), (.int 4 0), (.ref 471), (.int 182 0), (.int 4 0), (.ref 478), (.int 185 0), (.int 4 0), (.ref 485), (.int 188 0), (.int 4 0), (.ref 492), (.int 191 0), (.int 4 0), (.ref 499), (.int 194 0), (.int 4 0), (.ref 506), (.int 197 0), (.int 4 0), (.ref 513)])), (W [])⟩
def o408 (P : Params) : Obj := ⟨(.type "code"), none, (.fields (V [(.str (S "Hall") 684), (.str (S "Hall") 685), (.str (S "/claim/cut.py") 686), (.int 134 0), (.int 0 0), (.int 0 0), (.int 0 0), (.int 0 0), (.ref 403), (.bool false), (.int 181 0), (.ref 404), .none, .none, .none, .none, (.int 687 0), (.int 134 0), (.str (S "/claim/cut.py") 688)])), (W [])⟩
def o409 (P : Params) : Obj := ⟨(.type "frame"), none, .plain, (W [(some (.ref 405)), (some (.ref 3)), (some (.ref 402)), none, (some (.str (S "nearcall.halls") 568)), none, (some (.ref 0))])⟩
def o410 (P : Params) : Obj := ⟨(.type "tuple"), none, (.seq (V []) 0), (W [])⟩
def o411 (P : Params) : Obj := ⟨(.type "tuple"), none, (.seq (V [(.ref 407)]) 0), (W [])⟩
def o412 (P : Params) : Obj := ⟨(.type "tuple"), none, (.seq (V []) 0), (W [])⟩
def o413 (P : Params) : Obj := ⟨.none, none, (.fields (V [])), (W [])⟩
def o414 (P : Params) : Obj := ⟨(.type "tuple"), none, (.seq (V [(.str (S "self") 697), (.str (S "walls") 698), (.str (S "bars") 699), (.str (S "forced_by") 700)]) 0), (W [])⟩
def o415 (P : Params) : Obj := ⟨(.type "tuple"), none, (.seq (V []) 0), (W [])⟩
def o416 (P : Params) : Obj := ⟨.none, none, (.func ⟨(S "__init__"), (S "Hall.__init__"), (defArgs (inClass (ST 33) 0)), (.stmts (defBody (inClass (ST 33) 0))), (defScope (inClass (ST 33) 0)), 0, [], .none, .none, .none, .none, none, .none, .none, 0⟩), (W [])⟩
def o417 (P : Params) : Obj := ⟨(.type "code"), none, (.fields (V [(.str (S "__init__") 694), (.str (S "Hall.__init__") 695), (.str (S "/claim/cut.py") 696), (.int 136 0), (.int 3 0), (.int 0 0), (.int 0 0), (.int 3 0), (.ref 409), (.bool true), (.int 181 0), (.ref 410), .none, (.ref 411), (.ref 412), (.ref 413), (.int 701 0), (.int 136 0), (.str (S "/claim/cut.py") 702)])), (W [])⟩
def o418 (P : Params) : Obj := ⟨(.type "function"), none, (.func ⟨(S "__init__"), (S "Hall.__init__"), (defArgs (inClass (ST 33) 0)), (.stmts (defBody (inClass (ST 33) 0))), (defScope (inClass (ST 33) 0)), 3, [], (.ref 408), .none, .none, (.str (S "nearcall.halls") 568), none, (.ref 414), .none, 0⟩), (W [])⟩
def o419 (P : Params) : Obj := ⟨(.type "tuple"), none, (.seq (V []) 0), (W [])⟩
def o420 (P : Params) : Obj := ⟨.none, none, (.fields (V [])), (W [])⟩
def o421 (P : Params) : Obj := ⟨(.type "tuple"), none, (.seq (V [(.str (S "self") 707)]) 0), (W [])⟩
def o422 (P : Params) : Obj := ⟨(.type "tuple"), none, (.seq (V []) 0), (W [])⟩
def o423 (P : Params) : Obj := ⟨.none, none, (.func ⟨(S "walls"), (S "Hall.walls"), (defArgs (inClass (ST 33) 1)), (.stmts (defBody (inClass (ST 33) 1))), (defScope (inClass (ST 33) 1)), 0, [], .none, .none, .none, .none, none, .none, .none, 0⟩), (W [])⟩
def o424 (P : Params) : Obj := ⟨(.type "code"), none, (.fields (V [(.str (S "walls") 704), (.str (S "Hall.walls") 705), (.str (S "/claim/cut.py") 706), (.int 146 0), (.int 1 0), (.int 0 0), (.int 0 0), (.int 3 0), (.ref 416), (.bool true), (.int 181 0), (.ref 417), .none, (.ref 418), (.ref 419), (.ref 420), (.int 708 0), (.int 146 0), (.str (S "/claim/cut.py") 709)])), (W [])⟩
def o425 (P : Params) : Obj := ⟨(.type "function"), none, (.func ⟨(S "walls"), (S "Hall.walls"), (defArgs (inClass (ST 33) 1)), (.stmts (defBody (inClass (ST 33) 1))), (defScope (inClass (ST 33) 1)), 3, [], .none, .none, .none, (.str (S "nearcall.halls") 568), none, (.ref 421), .none, 0⟩), (W [])⟩
def o426 (P : Params) : Obj := ⟨(.type "tuple"), none, (.seq (V []) 0), (W [])⟩
def o427 (P : Params) : Obj := ⟨.none, none, (.fields (V [])), (W [])⟩
def o428 (P : Params) : Obj := ⟨(.type "tuple"), none, (.seq (V [(.str (S "self") 714)]) 0), (W [])⟩
def o429 (P : Params) : Obj := ⟨(.type "tuple"), none, (.seq (V []) 0), (W [])⟩
def o430 (P : Params) : Obj := ⟨.none, none, (.func ⟨(S "bars"), (S "Hall.bars"), (defArgs (inClass (ST 33) 2)), (.stmts (defBody (inClass (ST 33) 2))), (defScope (inClass (ST 33) 2)), 0, [], .none, .none, .none, .none, none, .none, .none, 0⟩), (W [])⟩
def o431 (P : Params) : Obj := ⟨(.type "code"), none, (.fields (V [(.str (S "bars") 711), (.str (S "Hall.bars") 712), (.str (S "/claim/cut.py") 713), (.int 149 0), (.int 1 0), (.int 0 0), (.int 0 0), (.int 3 0), (.ref 423), (.bool true), (.int 181 0), (.ref 424), .none, (.ref 425), (.ref 426), (.ref 427), (.int 715 0), (.int 149 0), (.str (S "/claim/cut.py") 716)])), (W [])⟩
def o432 (P : Params) : Obj := ⟨(.type "function"), none, (.func ⟨(S "bars"), (S "Hall.bars"), (defArgs (inClass (ST 33) 2)), (.stmts (defBody (inClass (ST 33) 2))), (defScope (inClass (ST 33) 2)), 3, [], .none, .none, .none, (.str (S "nearcall.halls") 568), none, (.ref 428), .none, 0⟩), (W [])⟩
def o433 (P : Params) : Obj := ⟨(.type "tuple"), none, (.seq (V []) 0), (W [])⟩
def o434 (P : Params) : Obj := ⟨.none, none, (.fields (V [])), (W [])⟩
def o435 (P : Params) : Obj := ⟨(.type "tuple"), none, (.seq (V [(.str (S "self") 721), (.str (S "side") 722)]) 0), (W [])⟩
def o436 (P : Params) : Obj := ⟨(.type "tuple"), none, (.seq (V []) 0), (W [])⟩
def o437 (P : Params) : Obj := ⟨.none, none, (.func ⟨(S "forced"), (S "Hall.forced"), (defArgs (inClass (ST 33) 3)), (.stmts (defBody (inClass (ST 33) 3))), (defScope (inClass (ST 33) 3)), 0, [], .none, .none, .none, .none, none, .none, .none, 0⟩), (W [])⟩
def o438 (P : Params) : Obj := ⟨(.type "code"), none, (.fields (V [(.str (S "forced") 718), (.str (S "Hall.forced") 719), (.str (S "/claim/cut.py") 720), (.int 152 0), (.int 2 0), (.int 0 0), (.int 0 0), (.int 3 0), (.ref 430), (.bool true), (.int 181 0), (.ref 431), .none, (.ref 432), (.ref 433), (.ref 434), (.int 723 0), (.int 152 0), (.str (S "/claim/cut.py") 724)])), (W [])⟩
def o439 (P : Params) : Obj := ⟨(.type "function"), none, (.func ⟨(S "forced"), (S "Hall.forced"), (defArgs (inClass (ST 33) 3)), (.stmts (defBody (inClass (ST 33) 3))), (defScope (inClass (ST 33) 3)), 3, [], .none, .none, .none, (.str (S "nearcall.halls") 568), none, (.ref 435), .none, 0⟩), (W [])⟩
def o440 (P : Params) : Obj := ⟨(.type "tuple"), none, (.seq (V []) 0), (W [])⟩
def o441 (P : Params) : Obj := ⟨.none, none, (.fields (V [])), (W [])⟩
def o442 (P : Params) : Obj := ⟨(.type "tuple"), none, (.seq (V [(.str (S "self") 729), (.str (S "one") 730), (.str (S "two") 731)]) 0), (W [])⟩
def o443 (P : Params) : Obj := ⟨(.type "tuple"), none, (.seq (V []) 0), (W [])⟩
def o444 (P : Params) : Obj := ⟨.none, none, (.func ⟨(S "forces"), (S "Hall.forces"), (defArgs (inClass (ST 33) 4)), (.stmts (defBody (inClass (ST 33) 4))), (defScope (inClass (ST 33) 4)), 0, [], .none, .none, .none, .none, none, .none, .none, 0⟩), (W [])⟩
def o445 (P : Params) : Obj := ⟨(.type "code"), none, (.fields (V [(.str (S "forces") 726), (.str (S "Hall.forces") 727), (.str (S "/claim/cut.py") 728), (.int 156 0), (.int 3 0), (.int 0 0), (.int 0 0), (.int 3 0), (.ref 437), (.bool true), (.int 181 0), (.ref 438), .none, (.ref 439), (.ref 440), (.ref 441), (.int 732 0), (.int 156 0), (.str (S "/claim/cut.py") 733)])), (W [])⟩
def o446 (P : Params) : Obj := ⟨(.type "function"), none, (.func ⟨(S "forces"), (S "Hall.forces"), (defArgs (inClass (ST 33) 4)), (.stmts (defBody (inClass (ST 33) 4))), (defScope (inClass (ST 33) 4)), 3, [], .none, .none, .none, (.str (S "nearcall.halls") 568), none, (.ref 442), .none, 0⟩), (W [])⟩
def o447 (P : Params) : Obj := ⟨(.type "tuple"), none, (.seq (V []) 0), (W [])⟩
def o448 (P : Params) : Obj := ⟨.none, none, (.fields (V [])), (W [])⟩
def o449 (P : Params) : Obj := ⟨.none, none, (.func ⟨(S "is_room"), (S "Hall.is_room"), (defArgs (inClass (ST 33) 5)), (.stmts (defBody (inClass (ST 33) 5))), (defScope (inClass (ST 33) 5)), 0, [], .none, .none, .none, .none, none, .none, .none, 0⟩), (W [])⟩
def o450 (P : Params) : Obj := ⟨(.type "code"), none, (.fields (V [(.str (S "is_room") 735), (.str (S "Hall.is_room") 736), (.str (S "/claim/cut.py") 737), (.int 161 0), (.int 2 0), (.int 0 0), (.int 0 0), (.int 3 0), (.ref 444), (.bool true), (.int 181 0), (.ref 445), .none, .none, .none, (.ref 446), (.int 738 0), (.int 161 0), (.str (S "/claim/cut.py") 739)])), (W [])⟩
def o451 (P : Params) : Obj := ⟨(.type "function"), none, (.func ⟨(S "is_room"), (S "Hall.is_room"), (defArgs (inClass (ST 33) 5)), (.stmts (defBody (inClass (ST 33) 5))), (defScope (inClass (ST 33) 5)), 3, [], .none, .none, .none, (.str (S "nearcall.halls") 568), none, (.ref 447), .none, 0⟩), (W [])⟩
def o452 (P : Params) : Obj := ⟨(.type "tuple"), none, (.seq (V []) 0), (W [])⟩
def o453 (P : Params) : Obj := ⟨.none, none, (.fields (V [])), (W [])⟩
def o454 (P : Params) : Obj := ⟨.none, none, (.func ⟨(S "rooms"), (S "Hall.rooms"), (defArgs (inClass (ST 33) 6)), (.stmts (defBody (inClass (ST 33) 6))), (defScope (inClass (ST 33) 6)), 0, [], .none, .none, .none, .none, none, .none, .none, 0⟩), (W [])⟩
def o455 (P : Params) : Obj := ⟨(.type "code"), none, (.fields (V [(.str (S "rooms") 741), (.str (S "Hall.rooms") 742), (.str (S "/claim/cut.py") 743), (.int 166 0), (.int 1 0), (.int 0 0), (.int 0 0), (.int 3 0), (.ref 449), (.bool true), (.int 181 0), (.ref 450), .none, .none, .none, (.ref 451), (.int 744 0), (.int 166 0), (.str (S "/claim/cut.py") 745)])), (W [])⟩
def o456 (P : Params) : Obj := ⟨(.type "function"), none, (.func ⟨(S "rooms"), (S "Hall.rooms"), (defArgs (inClass (ST 33) 6)), (.stmts (defBody (inClass (ST 33) 6))), (defScope (inClass (ST 33) 6)), 3, [], .none, .none, .none, (.str (S "nearcall.halls") 568), none, (.ref 452), .none, 0⟩), (W [])⟩
def o457 (P : Params) : Obj := ⟨(.type "tuple"), none, (.seq (V []) 0), (W [])⟩
def o458 (P : Params) : Obj := ⟨.none, none, (.fields (V [])), (W [])⟩
def o459 (P : Params) : Obj := ⟨.none, none, (.func ⟨(S "goes_with"), (S "Hall.goes_with"), (defArgs (inClass (ST 33) 7)), (.stmts (defBody (inClass (ST 33) 7))), (defScope (inClass (ST 33) 7)), 0, [], .none, .none, .none, .none, none, .none, .none, 0⟩), (W [])⟩
def o460 (P : Params) : Obj := ⟨(.type "code"), none, (.fields (V [(.str (S "goes_with") 747), (.str (S "Hall.goes_with") 748), (.str (S "/claim/cut.py") 749), (.int 172 0), (.int 3 0), (.int 0 0), (.int 0 0), (.int 3 0), (.ref 454), (.bool true), (.int 181 0), (.ref 455), .none, .none, .none, (.ref 456), (.int 750 0), (.int 172 0), (.str (S "/claim/cut.py") 751)])), (W [])⟩
def o461 (P : Params) : Obj := ⟨(.type "function"), none, (.func ⟨(S "goes_with"), (S "Hall.goes_with"), (defArgs (inClass (ST 33) 7)), (.stmts (defBody (inClass (ST 33) 7))), (defScope (inClass (ST 33) 7)), 3, [], .none, .none, .none, (.str (S "nearcall.halls") 568), none, (.ref 457), .none, 0⟩), (W [])⟩
def o462 (P : Params) : Obj := ⟨(.type "tuple"), none, (.seq (V []) 0), (W [])⟩
def o463 (P : Params) : Obj := ⟨.none, none, (.fields (V [])), (W [])⟩
def o464 (P : Params) : Obj := ⟨(.type "tuple"), none, (.seq (V [(.str (S "self") 756), (.str (S "room") 757)]) 0), (W [])⟩
def o465 (P : Params) : Obj := ⟨(.type "tuple"), none, (.seq (V []) 0), (W [])⟩
def o466 (P : Params) : Obj := ⟨.none, none, (.func ⟨(S "doors"), (S "Hall.doors"), (defArgs (inClass (ST 33) 8)), (.stmts (defBody (inClass (ST 33) 8))), (defScope (inClass (ST 33) 8)), 0, [], .none, .none, .none, .none, none, .none, .none, 0⟩), (W [])⟩
def o467 (P : Params) : Obj := ⟨(.type "code"), none, (.fields (V [(.str (S "doors") 753), (.str (S "Hall.doors") 754), (.str (S "/claim/cut.py") 755), (.int 176 0), (.int 2 0), (.int 0 0), (.int 0 0), (.int 3 0), (.ref 459), (.bool true), (.int 181 0), (.ref 460), .none, (.ref 461), (.ref 462), (.ref 463), (.int 758 0), (.int 176 0), (.str (S "/claim/cut.py") 759)])), (W [])⟩
def o468 (P : Params) : Obj := ⟨(.type "function"), none, (.func ⟨(S "doors"), (S "Hall.doors"), (defArgs (inClass (ST 33) 8)), (.stmts (defBody (inClass (ST 33) 8))), (defScope (inClass (ST 33) 8)), 3, [], .none, .none, .none, (.str (S "nearcall.halls") 568), none, (.ref 464), .none, 0⟩), (W [])⟩
def o469 (P : Params) : Obj := ⟨(.type "tuple"), none, (.seq (V []) 0), (W [])⟩
def o470 (P : Params) : Obj := ⟨.none, none, (.fields (V [])), (W [])⟩
def o471 (P : Params) : Obj := ⟨(.type "tuple"), none, (.seq (V [(.str (S "self") 764), (.str (S "room") 765), (.str (S "goal") 766)]) 0), (W [])⟩
def o472 (P : Params) : Obj := ⟨(.type "tuple"), none, (.seq (V []) 0), (W [])⟩
def o473 (P : Params) : Obj := ⟨.none, none, (.func ⟨(S "steps"), (S "Hall.steps"), (defArgs (inClass (ST 33) 9)), (.stmts (defBody (inClass (ST 33) 9))), (defScope (inClass (ST 33) 9)), 0, [], .none, .none, .none, .none, none, .none, .none, 0⟩), (W [])⟩
def o474 (P : Params) : Obj := ⟨(.type "code"), none, (.fields (V [(.str (S "steps") 761), (.str (S "Hall.steps") 762), (.str (S "/claim/cut.py") 763), (.int 179 0), (.int 3 0), (.int 0 0), (.int 0 0), (.int 3 0), (.ref 466), (.bool true), (.int 181 0), (.ref 467), .none, (.ref 468), (.ref 469), (.ref 470), (.int 767 0), (.int 179 0), (.str (S "/claim/cut.py") 768)])), (W [])⟩
def o475 (P : Params) : Obj := ⟨(.type "function"), none, (.func ⟨(S "steps"), (S "Hall.steps"), (defArgs (inClass (ST 33) 9)), (.stmts (defBody (inClass (ST 33) 9))), (defScope (inClass (ST 33) 9)), 3, [], .none, .none, .none, (.str (S "nearcall.halls") 568), none, (.ref 471), .none, 0⟩), (W [])⟩
def o476 (P : Params) : Obj := ⟨(.type "tuple"), none, (.seq (V []) 0), (W [])⟩
def o477 (P : Params) : Obj := ⟨.none, none, (.fields (V [])), (W [])⟩
def o478 (P : Params) : Obj := ⟨(.type "tuple"), none, (.seq (V [(.str (S "self") 773), (.str (S "room") 774), (.str (S "goal") 775)]) 0), (W [])⟩
def o479 (P : Params) : Obj := ⟨(.type "tuple"), none, (.seq (V []) 0), (W [])⟩
def o480 (P : Params) : Obj := ⟨.none, none, (.func ⟨(S "way"), (S "Hall.way"), (defArgs (inClass (ST 33) 10)), (.stmts (defBody (inClass (ST 33) 10))), (defScope (inClass (ST 33) 9)), 0, [], .none, .none, .none, .none, none, .none, .none, 0⟩), (W [])⟩
def o481 (P : Params) : Obj := ⟨(.type "code"), none, (.fields (V [(.str (S "way") 770), (.str (S "Hall.way") 771), (.str (S "/claim/cut.py") 772), (.int 182 0), (.int 3 0), (.int 0 0), (.int 0 0), (.int 3 0), (.ref 473), (.bool true), (.int 181 0), (.ref 474), .none, (.ref 475), (.ref 476), (.ref 477), (.int 776 0), (.int 182 0), (.str (S "/claim/cut.py") 777)])), (W [])⟩
def o482 (P : Params) : Obj := ⟨(.type "function"), none, (.func ⟨(S "way"), (S "Hall.way"), (defArgs (inClass (ST 33) 10)), (.stmts (defBody (inClass (ST 33) 10))), (defScope (inClass (ST 33) 9)), 3, [], .none, .none, .none, (.str (S "nearcall.halls") 568), none, (.ref 478), .none, 0⟩), (W [])⟩
def o483 (P : Params) : Obj := ⟨(.type "tuple"), none, (.seq (V []) 0), (W [])⟩
def o484 (P : Params) : Obj := ⟨.none, none, (.fields (V [])), (W [])⟩
def o485 (P : Params) : Obj := ⟨(.type "tuple"), none, (.seq (V [(.str (S "self") 782), (.str (S "room") 783), (.str (S "goal") 784)]) 0), (W [])⟩
def o486 (P : Params) : Obj := ⟨(.type "tuple"), none, (.seq (V []) 0), (W [])⟩
def o487 (P : Params) : Obj := ⟨.none, none, (.func ⟨(S "nearer"), (S "Hall.nearer"), (defArgs (inClass (ST 33) 11)), (.stmts (defBody (inClass (ST 33) 11))), (defScope (inClass (ST 33) 9)), 0, [], .none, .none, .none, .none, none, .none, .none, 0⟩), (W [])⟩
def o488 (P : Params) : Obj := ⟨(.type "code"), none, (.fields (V [(.str (S "nearer") 779), (.str (S "Hall.nearer") 780), (.str (S "/claim/cut.py") 781), (.int 185 0), (.int 3 0), (.int 0 0), (.int 0 0), (.int 3 0), (.ref 480), (.bool true), (.int 181 0), (.ref 481), .none, (.ref 482), (.ref 483), (.ref 484), (.int 785 0), (.int 185 0), (.str (S "/claim/cut.py") 786)])), (W [])⟩
def o489 (P : Params) : Obj := ⟨(.type "function"), none, (.func ⟨(S "nearer"), (S "Hall.nearer"), (defArgs (inClass (ST 33) 11)), (.stmts (defBody (inClass (ST 33) 11))), (defScope (inClass (ST 33) 9)), 3, [], .none, .none, .none, (.str (S "nearcall.halls") 568), none, (.ref 485), .none, 0⟩), (W [])⟩
def o490 (P : Params) : Obj := ⟨(.type "tuple"), none, (.seq (V []) 0), (W [])⟩
def o491 (P : Params) : Obj := ⟨.none, none, (.fields (V [])), (W [])⟩
def o492 (P : Params) : Obj := ⟨(.type "tuple"), none, (.seq (V [(.str (S "self") 791), (.str (S "thing") 792)]) 0), (W [])⟩
def o493 (P : Params) : Obj := ⟨(.type "tuple"), none, (.seq (V []) 0), (W [])⟩
def o494 (P : Params) : Obj := ⟨.none, none, (.func ⟨(S "__eq__"), (S "Hall.__eq__"), (defArgs (inClass (ST 33) 12)), (.stmts (defBody (inClass (ST 33) 12))), (defScope (inClass (ST 33) 12)), 0, [], .none, .none, .none, .none, none, .none, .none, 0⟩), (W [])⟩
def o495 (P : Params) : Obj := ⟨(.type "code"), none, (.fields (V [(.str (S "__eq__") 788), (.str (S "Hall.__eq__") 789), (.str (S "/claim/cut.py") 790), (.int 188 0), (.int 2 0), (.int 0 0), (.int 0 0), (.int 3 0), (.ref 487), (.bool true), (.int 181 0), (.ref 488), .none, (.ref 489), (.ref 490), (.ref 491), (.int 793 0), (.int 188 0), (.str (S "/claim/cut.py") 794)])), (W [])⟩
def o496 (P : Params) : Obj := ⟨(.type "function"), none, (.func ⟨(S "__eq__"), (S "Hall.__eq__"), (defArgs (inClass (ST 33) 12)), (.stmts (defBody (inClass (ST 33) 12))), (defScope (inClass (ST 33) 12)), 3, [], .none, .none, .none, (.str (S "nearcall.halls") 568), none, (.ref 492), .none, 0⟩), (W [])⟩
def o497 (P : Params) : Obj := ⟨(.type "tuple"), none, (.seq (V []) 0), (W [])⟩
def o498 (P : Params) : Obj := ⟨.none, none, (.fields (V [])), (W [])⟩
def o499 (P : Params) : Obj := ⟨(.type "tuple"), none, (.seq (V [(.str (S "self") 799)]) 0), (W [])⟩
def o500 (P : Params) : Obj := ⟨(.type "tuple"), none, (.seq (V []) 0), (W [])⟩
def o501 (P : Params) : Obj := ⟨.none, none, (.func ⟨(S "__len__"), (S "Hall.__len__"), (defArgs (inClass (ST 33) 13)), (.stmts (defBody (inClass (ST 33) 13))), (defScope (inClass (ST 33) 13)), 0, [], .none, .none, .none, .none, none, .none, .none, 0⟩), (W [])⟩
def o502 (P : Params) : Obj := ⟨(.type "code"), none, (.fields (V [(.str (S "__len__") 796), (.str (S "Hall.__len__") 797), (.str (S "/claim/cut.py") 798), (.int 191 0), (.int 1 0), (.int 0 0), (.int 0 0), (.int 3 0), (.ref 494), (.bool true), (.int 181 0), (.ref 495), .none, (.ref 496), (.ref 497), (.ref 498), (.int 800 0), (.int 191 0), (.str (S "/claim/cut.py") 801)])), (W [])⟩
def o503 (P : Params) : Obj := ⟨(.type "function"), none, (.func ⟨(S "__len__"), (S "Hall.__len__"), (defArgs (inClass (ST 33) 13)), (.stmts (defBody (inClass (ST 33) 13))), (defScope (inClass (ST 33) 13)), 3, [], .none, .none, .none, (.str (S "nearcall.halls") 568), none, (.ref 499), .none, 0⟩), (W [])⟩
def o504 (P : Params) : Obj := ⟨(.type "tuple"), none, (.seq (V []) 0), (W [])⟩
def o505 (P : Params) : Obj := ⟨.none, none, (.fields (V [])), (W [])⟩
def o506 (P : Params) : Obj := ⟨(.type "tuple"), none, (.seq (V [(.str (S "self") 806)]) 0), (W [])⟩
def o507 (P : Params) : Obj := ⟨(.type "tuple"), none, (.seq (V []) 0), (W [])⟩
def o508 (P : Params) : Obj := ⟨.none, none, (.func ⟨(S "__str__"), (S "Hall.__str__"), (defArgs (inClass (ST 33) 14)), (.stmts (defBody (inClass (ST 33) 14))), (defScope (inClass (ST 33) 1)), 0, [], .none, .none, .none, .none, none, .none, .none, 0⟩), (W [])⟩
def o509 (P : Params) : Obj := ⟨(.type "code"), none, (.fields (V [(.str (S "__str__") 803), (.str (S "Hall.__str__") 804), (.str (S "/claim/cut.py") 805), (.int 194 0), (.int 1 0), (.int 0 0), (.int 0 0), (.int 3 0), (.ref 501), (.bool true), (.int 181 0), (.ref 502), .none, (.ref 503), (.ref 504), (.ref 505), (.int 807 0), (.int 194 0), (.str (S "/claim/cut.py") 808)])), (W [])⟩
def o510 (P : Params) : Obj := ⟨(.type "function"), none, (.func ⟨(S "__str__"), (S "Hall.__str__"), (defArgs (inClass (ST 33) 14)), (.stmts (defBody (inClass (ST 33) 14))), (defScope (inClass (ST 33) 1)), 3, [], .none, .none, .none, (.str (S "nearcall.halls") 568), none, (.ref 506), .none, 0⟩), (W [])⟩
def o511 (P : Params) : Obj := ⟨(.type "tuple"), none, (.seq (V []) 0), (W [])⟩
def o512 (P : Params) : Obj := ⟨.none, none, (.fields (V [])), (W [])⟩
def o513 (P : Params) : Obj := ⟨(.type "tuple"), none, (.seq (V [(.str (S "self") 813)]) 0), (W [])⟩
def o514 (P : Params) : Obj := ⟨(.type "tuple"), none, (.seq (V []) 0), (W [])⟩
def o515 (P : Params) : Obj := ⟨.none, none, (.func ⟨(S "__repr__"), (S "Hall.__repr__"), (defArgs (inClass (ST 33) 15)), (.stmts (defBody (inClass (ST 33) 15))), (defScope (inClass (ST 33) 13)), 0, [], .none, .none, .none, .none, none, .none, .none, 0⟩), (W [])⟩
def o516 (P : Params) : Obj := ⟨(.type "code"), none, (.fields (V [(.str (S "__repr__") 810), (.str (S "Hall.__repr__") 811), (.str (S "/claim/cut.py") 812), (.int 197 0), (.int 1 0), (.int 0 0), (.int 0 0), (.int 3 0), (.ref 508), (.bool true), (.int 181 0), (.ref 509), .none, (.ref 510), (.ref 511), (.ref 512), (.int 814 0), (.int 197 0), (.str (S "/claim/cut.py") 815)])), (W [])⟩
def o517 (P : Params) : Obj := ⟨(.type "function"), none, (.func ⟨(S "__repr__"), (S "Hall.__repr__"), (defArgs (inClass (ST 33) 15)), (.stmts (defBody (inClass (ST 33) 15))), (defScope (inClass (ST 33) 13)), 3, [], .none, .none, .none, (.str (S "nearcall.halls") 568), none, (.ref 513), .none, 0⟩), (W [])⟩
def o518 (P : Params) : Obj := ⟨(.type "tuple"), none, (.seq (V [(.str (S "bar_list") 817), (.str (S "forced_by") 818), (.str (S "wall_text") 819)]) 0), (W [])⟩
def o519 (P : Params) : Obj := ⟨(.type "dict"), none, (.dict (D [E P (S "__module__") 689 (.str (S "nearcall.halls") 568), E P (S "__firstlineno__") 693 (.int 134 692), E P (S "__init__") 703 (.ref 415), E P (S "walls") 710 (.ref 422), E P (S "bars") 717 (.ref 429), E P (S "forced") 725 (.ref 436), E P (S "forces") 734 (.ref 443), E P (S "is_room") 740 (.ref 448), E P (S "rooms") 746 (.ref 453), E P (S "goes_with") 752 (.ref 458), E P (S "doors") 760 (.ref 465), E P (S "steps") 769 (.ref 472), E P (S "way") 778 (.ref 479), E P (S "nearer") 787 (.ref 486), E P (S "__eq__") 795 (.ref 493), E P (S "__len__") 802 (.ref 500), E P (S "__str__") 809 (.ref 507), E P (S "__repr__") 816 (.ref 514), E P (S "__static_attributes__") 820 (.ref 515), E P (S "__dict__") 822 (.ref 518), E P (S "__weakref__") 824 (.ref 519), E P (S "__doc__") 825 .none, E P (S "__hash__") 826 .none]) 5), (W [])⟩
def o520 (P : Params) : Obj := ⟨(.type "type"), none, (.cls ⟨(S "Hall"), [(.type "object")], [(.ref 517), (.type "object")], 516, (S "Hall"), true, [], [], false, none, false⟩), (W [none, none, (some (.str (S "Hall") 682)), (some (.str (S "Hall") 690)), (some (.builtin "object.__new__")), (some (.bool true))])⟩
def o521 (P : Params) : Obj := ⟨(.type "getset_descriptor"), none, (.fields (V [(.str (S "__dict__") 821), (.ref 517), (.builtin "function.__dict__"), (.builtin "function.__dict__#set")])), (W [])⟩
def o522 (P : Params) : Obj := ⟨(.type "getset_descriptor"), none, (.fields (V [(.str (S "__weakref__") 823), (.ref 517), (.builtin "ExceptionGroup.__weakref__"), .none])), (W [])⟩
def o523 (P : Params) : Obj := ⟨(.type "super"), none, (.fields (V [(.ref 517), (.ref 517), (.ref 517)])), (W [])⟩
def o524 (P : Params) : Obj := ⟨(.type "builtin_function_or_method"), none, (.fields (V [(.builtin "object.__init_subclass__"), (.ref 517)])), (W [])⟩
def o525 (P : Params) : Obj := ⟨(.type "tuple"), none, (.seq (V []) 0), (W [])⟩
def o526 (P : Params) : Obj := ⟨.none, none, (.fields (V [])), (W [])⟩
def o527 (P : Params) : Obj := ⟨(.type "tuple"), none, (.seq (V [(.str (S "hall") 834), (.str (S "part") 835), (.str (S "walls") 836), (.str (S "ahead") 837), (.str (S "wall") 838)]) 0), (W [])⟩
def o528 (P : Params) : Obj := ⟨(.type "tuple"), none, (.seq (V []) 0), (W [])⟩
def o529 (P : Params) : Obj := ⟨.none, none, (.func ⟨(S "is_part"), (S "is_part"), (defArgs (ST 35)), (.stmts (defBody (ST 35))), (defScope (ST 35)), 0, [], .none, .none, .none, .none, none, .none, .none, 0⟩), (W [])⟩
def o530 (P : Params) : Obj := ⟨(.type "code"), none, (.fields (V [(.str (S "is_part") 831), (.str (S "is_part") 832), (.str (S "/claim/cut.py") 833), (.int 200 0), (.int 2 0), (.int 0 0), (.int 0 0), (.int 3 0), (.ref 522), (.bool true), (.int 181 0), (.ref 523), .none, (.ref 524), (.ref 525), (.ref 526), (.int 839 0), (.int 200 0), (.str (S "/claim/cut.py") 840)])), (W [])⟩
def o531 (P : Params) : Obj := ⟨(.type "function"), none, (.func ⟨(S "is_part"), (S "is_part"), (defArgs (ST 35)), (.stmts (defBody (ST 35))), (defScope (ST 35)), 3, [], .none, .none, .none, (.str (S "nearcall.parts") 829), none, (.ref 527), .none, 0⟩), (W [])⟩
def o532 (P : Params) : Obj := ⟨(.type "tuple"), none, (.seq (V []) 0), (W [])⟩
def o533 (P : Params) : Obj := ⟨.none, none, (.fields (V [])), (W [])⟩
def o534 (P : Params) : Obj := ⟨(.type "tuple"), none, (.seq (V [(.str (S "hall") 845), (.str (S "part") 846)]) 0), (W [])⟩
def o535 (P : Params) : Obj := ⟨(.type "tuple"), none, (.seq (V []) 0), (W [])⟩
def o536 (P : Params) : Obj := ⟨.none, none, (.func ⟨(S "check_part"), (S "check_part"), (defArgs (ST 36)), (.stmts (defBody (ST 36))), (defScope (ST 36)), 0, [], .none, .none, .none, .none, none, .none, .none, 0⟩), (W [])⟩
def o537 (P : Params) : Obj := ⟨(.type "code"), none, (.fields (V [(.str (S "check_part") 842), (.str (S "check_part") 843), (.str (S "/claim/cut.py") 844), (.int 208 0), (.int 2 0), (.int 0 0), (.int 0 0), (.int 3 0), (.ref 529), (.bool true), (.int 181 0), (.ref 530), .none, (.ref 531), (.ref 532), (.ref 533), (.int 847 0), (.int 208 0), (.str (S "/claim/cut.py") 848)])), (W [])⟩
def o538 (P : Params) : Obj := ⟨(.type "function"), none, (.func ⟨(S "check_part"), (S "check_part"), (defArgs (ST 36)), (.stmts (defBody (ST 36))), (defScope (ST 36)), 3, [], .none, .none, .none, (.str (S "nearcall.parts") 829), none, (.ref 534), .none, 0⟩), (W [])⟩
def o539 (P : Params) : Obj := ⟨(.type "tuple"), none, (.seq (V []) 0), (W [])⟩
def o540 (P : Params) : Obj := ⟨.none, none, (.fields (V [])), (W [])⟩
def o541 (P : Params) : Obj := ⟨.none, none, (.func ⟨(S "all_forced_by"), (S "all_forced_by"), (defArgs (ST 37)), (.stmts (defBody (ST 37))), (defScope (ST 37)), 0, [], .none, .none, .none, .none, none, .none, .none, 0⟩), (W [])⟩
def o542 (P : Params) : Obj := ⟨(.type "code"), none, (.fields (V [(.str (S "all_forced_by") 850), (.str (S "all_forced_by") 851), (.str (S "/claim/cut.py") 852), (.int 211 0), (.int 2 0), (.int 0 0), (.int 0 0), (.int 3 0), (.ref 536), (.bool true), (.int 181 0), (.ref 537), .none, .none, .none, (.ref 538), (.int 853 0), (.int 211 0), (.str (S "/claim/cut.py") 854)])), (W [])⟩
def o543 (P : Params) : Obj := ⟨(.type "function"), none, (.func ⟨(S "all_forced_by"), (S "all_forced_by"), (defArgs (ST 37)), (.stmts (defBody (ST 37))), (defScope (ST 37)), 3, [], .none, .none, .none, (.str (S "nearcall.parts") 829), none, (.ref 539), .none, 0⟩), (W [])⟩
def o544 (P : Params) : Obj := ⟨(.type "tuple"), none, (.seq (V []) 0), (W [])⟩
def o545 (P : Params) : Obj := ⟨.none, none, (.fields (V [])), (W [])⟩
def o546 (P : Params) : Obj := ⟨.none, none, (.func ⟨(S "torn_walls"), (S "torn_walls"), (defArgs (ST 38)), (.stmts (defBody (ST 38))), (defScope (ST 38)), 0, [], .none, .none, .none, .none, none, .none, .none, 0⟩), (W [])⟩
def o547 (P : Params) : Obj := ⟨(.type "code"), none, (.fields (V [(.str (S "torn_walls") 856), (.str (S "torn_walls") 857), (.str (S "/claim/cut.py") 858), (.int 213 0), (.int 2 0), (.int 0 0), (.int 0 0), (.int 3 0), (.ref 541), (.bool true), (.int 181 0), (.ref 542), .none, .none, .none, (.ref 543), (.int 859 0), (.int 213 0), (.str (S "/claim/cut.py") 860)])), (W [])⟩
def o548 (P : Params) : Obj := ⟨(.type "function"), none, (.func ⟨(S "torn_walls"), (S "torn_walls"), (defArgs (ST 38)), (.stmts (defBody (ST 38))), (defScope (ST 38)), 3, [], .none, .none, .none, (.str (S "nearcall.parts") 829), none, (.ref 544), .none, 0⟩), (W [])⟩
def o549 (P : Params) : Obj := ⟨(.type "tuple"), none, (.seq (V []) 0), (W [])⟩
def o550 (P : Params) : Obj := ⟨.none, none, (.fields (V [])), (W [])⟩
def o551 (P : Params) : Obj := ⟨(.type "tuple"), none, (.seq (V [(.str (S "hall") 865), (.str (S "part") 866), (.str (S "torn") 867)]) 0), (W [])⟩
def o552 (P : Params) : Obj := ⟨(.type "tuple"), none, (.seq (V []) 0), (W [])⟩
def o553 (P : Params) : Obj := ⟨.none, none, (.func ⟨(S "shut"), (S "shut"), (defArgs (ST 39)), (.stmts (defBody (ST 39))), (defScope (ST 39)), 0, [], .none, .none, .none, .none, none, .none, .none, 0⟩), (W [])⟩
def o554 (P : Params) : Obj := ⟨(.type "code"), none, (.fields (V [(.str (S "shut") 862), (.str (S "shut") 863), (.str (S "/claim/cut.py") 864), (.int 216 0), (.int 2 0), (.int 0 0), (.int 0 0), (.int 3 0), (.ref 546), (.bool true), (.int 181 0), (.ref 547), .none, (.ref 548), (.ref 549), (.ref 550), (.int 868 0), (.int 216 0), (.str (S "/claim/cut.py") 869)])), (W [])⟩
def o555 (P : Params) : Obj := ⟨(.type "function"), none, (.func ⟨(S "shut"), (S "shut"), (defArgs (ST 39)), (.stmts (defBody (ST 39))), (defScope (ST 39)), 3, [], .none, .none, .none, (.str (S "nearcall.parts") 829), none, (.ref 551), .none, 0⟩), (W [])⟩
def objs_4 (P : Params) : List Obj :=
  [boot_o_0 P, boot_o_1 P, o248 P, o375 P, boot_o_4 P, boot_o_5 P, boot_o_6 P, boot_o_7 P, boot_o_8 P, boot_o_9 P, boot_o_10 P, o0 P, o376 P, o2 P, o3 P, o6 P, o7 P, o8 P, o9 P, o10 P, o11 P, o12 P, o13 P, o14 P, o15 P, o16 P, o17 P, o18 P, o19 P, o20 P, o21 P, o22 P, o23 P, o24 P, o25 P, o26 P, o27 P, o28 P, o251 P, o30 P] ++ (
  [o31 P, o32 P, o33 P, o34 P, o35 P, o36 P, o37 P, o38 P, o39 P, o40 P, o41 P, o42 P, o43 P, o44 P, o45 P, o46 P, o47 P, o48 P, o49 P, o50 P, o51 P, o52 P, o53 P, o54 P, o55 P, o56 P, o57 P, o58 P, o59 P, o60 P, o61 P, o62 P, o63 P, o64 P, o65 P, o66 P, o67 P, o68 P, o69 P, o70 P] ++ (
  [o71 P, o72 P, o73 P, o74 P, o75 P, o76 P, o77 P, o78 P, o79 P, o80 P, o81 P, o82 P, o83 P, o84 P, o85 P, o86 P, o87 P, o88 P, o89 P, o93 P, o94 P, o95 P, o96 P, o97 P, o98 P, o99 P, o100 P, o101 P, o102 P, o103 P, o104 P, o105 P, o106 P, o107 P, o108 P, o109 P, o110 P, o111 P, o112 P, o113 P] ++ (
  [o114 P, o115 P, o116 P, o117 P, o118 P, o119 P, o120 P, o121 P, o122 P, o123 P, o124 P, o125 P, o126 P, o127 P, o128 P, o129 P, o130 P, o131 P, o132 P, o133 P, o134 P, o135 P, o136 P, o137 P, o138 P, o139 P, o140 P, o141 P, o142 P, o143 P, o144 P, o145 P, o146 P, o147 P, o148 P, o149 P, o150 P, o151 P, o152 P, o153 P] ++ (
  [o154 P, o155 P, o156 P, o157 P, o158 P, o159 P, o160 P, o161 P, o162 P, o163 P, o164 P, o165 P, o166 P, o167 P, o168 P, o172 P, o173 P, o174 P, o175 P, o176 P, o177 P, o178 P, o179 P, o180 P, o181 P, o182 P, o183 P, o184 P, o185 P, o186 P, o187 P, o188 P, o189 P, o190 P, o191 P, o192 P, o193 P, o194 P, o195 P, o196 P] ++ (
  [o197 P, o198 P, o199 P, o200 P, o201 P, o202 P, o203 P, o204 P, o205 P, o206 P, o207 P, o208 P, o209 P, o210 P, o211 P, o212 P, o213 P, o214 P, o215 P, o216 P, o217 P, o218 P, o219 P, o220 P, o221 P, o222 P, o223 P, o224 P, o225 P, o226 P, o227 P, o228 P, o229 P, o230 P, o231 P, o232 P, o233 P, o234 P, o235 P, o236 P] ++ (
  [o237 P, o238 P, o239 P, o240 P, o241 P, o242 P, o243 P, o244 P, o245 P, o246 P, o247 P, o252 P, o253 P, o254 P, o255 P, o256 P, o257 P, o258 P, o259 P, o260 P, o261 P, o262 P, o263 P, o264 P, o265 P, o266 P, o267 P, o268 P, o269 P, o270 P, o271 P, o272 P, o273 P, o274 P, o275 P, o276 P, o277 P, o278 P, o279 P, o280 P] ++ (
  [o281 P, o282 P, o283 P, o284 P, o285 P, o286 P, o287 P, o288 P, o289 P, o290 P, o291 P, o292 P, o293 P, o294 P, o295 P, o296 P, o297 P, o298 P, o299 P, o300 P, o301 P, o302 P, o303 P, o304 P, o305 P, o306 P, o307 P, o308 P, o309 P, o310 P, o311 P, o312 P, o313 P, o314 P, o315 P, o316 P, o317 P, o318 P, o319 P, o320 P] ++ (
  [o321 P, o322 P, o323 P, o324 P, o325 P, o326 P, o327 P, o328 P, o329 P, o330 P, o331 P, o332 P, o333 P, o334 P, o335 P, o336 P, o337 P, o338 P, o339 P, o340 P, o341 P, o342 P, o343 P, o344 P, o345 P, o346 P, o347 P, o348 P, o349 P, o350 P, o351 P, o352 P, o353 P, o354 P, o355 P, o356 P, o357 P, o358 P, o359 P, o360 P] ++ (
  [o361 P, o362 P, o363 P, o364 P, o365 P, o366 P, o367 P, o368 P, o369 P, o370 P, o371 P, o372 P, o373 P, o374 P, o377 P, o378 P, o379 P, o380 P, o381 P, o382 P, o383 P, o384 P, o385 P, o386 P, o387 P, o388 P, o389 P, o390 P, o391 P, o392 P, o393 P, o394 P, o395 P, o396 P, o397 P, o398 P, o399 P, o400 P, o401 P, o402 P] ++ (
  [o403 P, o404 P, o405 P, o406 P, o407 P, o408 P, o409 P, o410 P, o411 P, o412 P, o413 P, o414 P, o415 P, o416 P, o417 P, o418 P, o419 P, o420 P, o421 P, o422 P, o423 P, o424 P, o425 P, o426 P, o427 P, o428 P, o429 P, o430 P, o431 P, o432 P, o433 P, o434 P, o435 P, o436 P, o437 P, o438 P, o439 P, o440 P, o441 P, o442 P] ++ (
  [o443 P, o444 P, o445 P, o446 P, o447 P, o448 P, o449 P, o450 P, o451 P, o452 P, o453 P, o454 P, o455 P, o456 P, o457 P, o458 P, o459 P, o460 P, o461 P, o462 P, o463 P, o464 P, o465 P, o466 P, o467 P, o468 P, o469 P, o470 P, o471 P, o472 P, o473 P, o474 P, o475 P, o476 P, o477 P, o478 P, o479 P, o480 P, o481 P, o482 P] ++ (
  [o483 P, o484 P, o485 P, o486 P, o487 P, o488 P, o489 P, o490 P, o491 P, o492 P, o493 P, o494 P, o495 P, o496 P, o497 P, o498 P, o499 P, o500 P, o501 P, o502 P, o503 P, o504 P, o505 P, o506 P, o507 P, o508 P, o509 P, o510 P, o511 P, o512 P, o513 P, o514 P, o515 P, o516 P, o517 P, o518 P, o519 P, o520 P, o521 P, o522 P] ++ (
  [o523 P, o524 P, o525 P, o526 P, o527 P, o528 P, o529 P, o530 P, o531 P, o532 P, o533 P, o534 P, o535 P, o536 P, o537 P, o538 P, o539 P, o540 P, o541 P, o542 P, o543 P, o544 P, o545 P, o546 P, o547 P, o548 P, o549 P, o550 P, o551 P, o552 P, o553 P, o554 P, o555 P])))))))))))))
def o556 (P : Params) : Obj := ⟨(.type "dict"), none, (.dict (D [E P (S "__name__") 165 (.str (S "nearcall.tables") 971), E P (S "__doc__") 166 .none, E P (S "__package__") 167 .none, E P (S "__loader__") 168 (.builtin "__main__.__loader__#opaque"), E P (S "__spec__") 169 .none, E P (S "__annotations__") 170 (.ref 6), E P (S "__builtins__") 171 (.ref 4), E P (S "__file__") 173 (.str (S "/claim/cut.py") 172), E P (S "__cached__") 174 .none, E P (S "_wall") 193 (.ref 21), E P (S "HallError") 222 (.ref 38), E P (S "BadWalls") 245 (.ref 58), E P (S "BadBar") 270 (.ref 77), E P (S "BadSide") 293 (.ref 96), E P (S "Fixed") 318 (.ref 115), E P (S "Alike") 345 (.ref 134), E P (S "BadRoom") 368 (.ref 153), E P (S "BadPart") 391 (.ref 172), E P (S "Empty") 416 (.ref 191), E P (S "BadTurn") 439 (.ref 210), E P (S "BadTable") 464 (.ref 229), E P (S "OtherHall") 487 (.ref 248), E P (S "TooMany") 512 (.ref 267), E P (S "Missing") 539 (.ref 286), E P (S "NothingLeft") 567 (.ref 306), E P (S "WIDEST") 571 (.int 12 570), E P (S "other") 578 (.ref 316), E P (S "sides_of") 585 (.ref 323), E P (S "by_walls") 591 (.ref 328), E P (S "is_walls") 597 (.ref 333), E P (S "is_bar") 606 (.ref 340), E P (S "check_walls") 613 (.ref 347), E P (S "check_bars") 623 (.ref 354), E P (S "check_side") 631 (.ref 361), E P (S "check_room") 639 (.ref 368), E P (S "straight_from") 645 (.ref 373), E P (S "reached") 658 (.ref 380), E P (S "all_forced") 664 (.ref 385), E P (S "check_fixed") 672 (.ref 392), E P (S "check_alike") 681 (.ref 399), E P (S "Hall") 828 (.ref 517), E P (S "is_part") 841 (.ref 528), E P (S "check_part") 849 (.ref 535), E P (S "all_forced_by") 855 (.ref 540), E P (S "torn_walls") 861 (.ref 545), E P (S "shut") 870 (.ref 552), E P (S "goes_over") 883 (.ref 559), E P (S "sides_over") 889 (.ref 564), E P (S "keeps_forcing") 899 (.ref 571), E P (S "is_turn") 908 (.ref 578), E P (S "checked_turn") 916 (.ref 585), E P (S "turned") 926 (.ref 592), E P (S "over") 936 (.ref 599), E P (S "turn_behind") 945 (.ref 606), E P (S "back_turn") 951 (.ref 611), E P (S "round_of") 962 (.ref 618), E P (S "shut_calls") 970 (.ref 623), E P (S "is_fixed") 979 (.ref 630), E P (S "stand_on") 987 (.ref 637), E P (S "is_entry") 996 (.ref 644), E P (S "side_behind") 1005 (.ref 651), E P (S "room_behind") 1011 (.ref 656), E P (S "entry_ahead") 1020 (.ref 663), E P (S "entries_then") 1026 (.ref 668), E P (S "may_meet") 1035 (.ref 675), E P (S "stood_ahead") 1043 (.ref 682), E P (S "leads_to_rooms") 1049 (.ref 687), E P (S "check_entries") 1060 (.ref 694), E P (S "check_same_hall") 1068 (.ref 701)]) 69), (W [])⟩
def o557 (P : Params) : Obj := ⟨.none, none, (.fields (V [(.int 1 0), (.int 0 0), (.ref 20), (.int 5 0), (.int 0 0), (.ref 27), (.int 10 0), (.int 0 0), (.ref 47), (.int 14 0), (.int 0 0), (.ref 66), (.int 19 0), (.int 0 0), (.ref 85), (.int 23 0), (.int 0 0), (.ref 104), (.int 28 0), (.int 0 0), (.ref 123), (.int 34 0), (.int 0 0), (.ref 142), (.int 38 0), (.int 0 0), (.ref 161), (.int 42 0), (.int 0 0), (.ref 180), (.int 47 0), (.int 0 0), (.ref 199), (.int 51 0), (.int 0 0), (.ref 218), (.int 56 0), (.int 0 0), (.ref 237), (.int 60 0), (.int 0 0), (.ref 256), (.int 65 0), (.int 0 0), (.ref 275), (.int 70 0), (.int 0 0), (.ref 295), (.int 77 0), (.int 0 0), (.ref 315), (.int 79 0), (.int 0 0), (.ref 322), (.int 81 0), (.int 0 0), (.ref 327), (.int 83 0), (.int 0 0), (.ref 332), (.int 86 0), (.int 0 0), (.ref 339), (.int 91 0), (.int 0 0), (.ref 346), (.int 94 0), (.int 0 0), (.ref 353), (.int 98 0), (.int 0 0), (.ref 360), (.int 101 0), (.int 0 0), (.ref 367), (.int 104 0), (.int 0 0), (.ref 372), (.int 110 0), (.int 0 0), (.ref 379), (.int 122 0), (.int 0 0), (.ref 384), (.int 125 0), (.int 0 0), (.ref 391), (.int 129 0), (.int 0 0), (.ref 398), (.int 134 0), (.int 0 0), (.ref 405), (.int 200 0), (.int 0 0), (.ref 527), (.int 208 0), (.int 0 0), (.ref 534), (.int 211 0), (.int 0 0), (.ref 539), (.int 213 0), (.int 0 0), (.ref 544), (.int 216 0), (.int 0 0), (.ref 551), (.int 223 0), (.int 0 0), (.ref 558), (.int 229 0), (.int 0 0), (.ref 563), (.int 231 0), (.int 0 0), (.ref 570), (.int 237 0), (.int 0 0), (.ref 577), (.int 242 0), (.int 0 0), (.ref 584), (.int 246 0), (.int 0 0), (.ref 591), (.int 250 0), (.int 0 0), (.ref 598), (.int 254 0), (.int 0 0), (.ref 605), (.int 257 0), (.int 0 0), (.ref 610), (.int 261 0), (.int 0 0), (.ref 617), (.int 270 0), (.int 0 0), (.ref 622), (.int 275 0), (.int 0 0), (.ref 629), (.int 277 0), (.int 0 0), (.ref 636), (.int 279 0), (.int 0 0), (.ref 643), (.int 281 0), (.int 0 0), (.ref 650), (.int 285 0), (.int 0 0), (.ref 655), (.int 287 0), (.int 0 0), (.ref 662), (.int 291 0), (.int 0 0), (.ref 667), (.int 297 0), (.int 0 0), (.ref 674), (.int 303 0), (.int 0 0), (.ref 681), (.int 307 0), (.int 0 0), (.ref 686), (.int 315 0), (.int 0 0), (.ref 693), (.int 324 0), (.int 0 0), (.ref 700)])), (W [])⟩
def o558 (P : Params) : Obj := ⟨(.type "tuple"), none, (.seq (V []) 0), (W [])⟩
def o559 (P : Params) : Obj := ⟨.none, none, (.fields (V [])), (W [])⟩
def o560 (P : Params) : Obj := ⟨(.type "tuple"), none, (.seq (V [(.str (S "walls") 876), (.str (S "turn") 877), (.str (S "into") 878), (.str (S "wall") 879), (.str (S "side") 880)]) 0), (W [])⟩
def o561 (P : Params) : Obj := ⟨(.type "tuple"), none, (.seq (V []) 0), (W [])⟩
def o562 (P : Params) : Obj := ⟨.none, none, (.func ⟨(S "goes_over"), (S "goes_over"), (defArgs (ST 41)), (.stmts (defBody (ST 41))), (defScope (ST 41)), 0, [], .none, .none, .none, .none, none, .none, .none, 0⟩), (W [])⟩
def o563 (P : Params) : Obj := ⟨(.type "code"), none, (.fields (V [(.str (S "goes_over") 873), (.str (S "goes_over") 874), (.str (S "/claim/cut.py") 875), (.int 223 0), (.int 2 0), (.int 0 0), (.int 0 0), (.int 3 0), (.ref 553), (.bool true), (.int 181 0), (.ref 554), .none, (.ref 555), (.ref 556), (.ref 557), (.int 881 0), (.int 223 0), (.str (S "/claim/cut.py") 882)])), (W [])⟩
def o564 (P : Params) : Obj := ⟨(.type "function"), none, (.func ⟨(S "goes_over"), (S "goes_over"), (defArgs (ST 41)), (.stmts (defBody (ST 41))), (defScope (ST 41)), 3, [], .none, .none, .none, (.str (S "nearcall.turns") 871), none, (.ref 558), .none, 0⟩), (W [])⟩
def o565 (P : Params) : Obj := ⟨(.type "tuple"), none, (.seq (V []) 0), (W [])⟩
def o566 (P : Params) : Obj := ⟨.none, none, (.fields (V [])), (W [])⟩
def o567 (P : Params) : Obj := ⟨.none, none, (.func ⟨(S "sides_over"), (S "sides_over"), (defArgs (ST 42)), (.stmts (defBody (ST 42))), (defScope (ST 42)), 0, [], .none, .none, .none, .none, none, .none, .none, 0⟩), (W [])⟩
def o568 (P : Params) : Obj := ⟨(.type "code"), none, (.fields (V [(.str (S "sides_over") 884), (.str (S "sides_over") 885), (.str (S "/claim/cut.py") 886), (.int 229 0), (.int 2 0), (.int 0 0), (.int 0 0), (.int 3 0), (.ref 560), (.bool true), (.int 181 0), (.ref 561), .none, .none, .none, (.ref 562), (.int 887 0), (.int 229 0), (.str (S "/claim/cut.py") 888)])), (W [])⟩
def o569 (P : Params) : Obj := ⟨(.type "function"), none, (.func ⟨(S "sides_over"), (S "sides_over"), (defArgs (ST 42)), (.stmts (defBody (ST 42))), (defScope (ST 42)), 3, [], .none, .none, .none, (.str (S "nearcall.turns") 871), none, (.ref 563), .none, 0⟩), (W [])⟩
def o570 (P : Params) : Obj := ⟨(.type "tuple"), none, (.seq (V []) 0), (W [])⟩
def o571 (P : Params) : Obj := ⟨.none, none, (.fields (V [])), (W [])⟩
def o572 (P : Params) : Obj := ⟨(.type "tuple"), none, (.seq (V [(.str (S "hall") 893), (.str (S "into") 894), (.str (S "side") 895), (.str (S "met") 896)]) 0), (W [])⟩
def o573 (P : Params) : Obj := ⟨(.type "tuple"), none, (.seq (V []) 0), (W [])⟩
def o574 (P : Params) : Obj := ⟨.none, none, (.func ⟨(S "keeps_forcing"), (S "keeps_forcing"), (defArgs (ST 43)), (.stmts (defBody (ST 43))), (defScope (ST 43)), 0, [], .none, .none, .none, .none, none, .none, .none, 0⟩), (W [])⟩
def o575 (P : Params) : Obj := ⟨(.type "code"), none, (.fields (V [(.str (S "keeps_forcing") 890), (.str (S "keeps_forcing") 891), (.str (S "/claim/cut.py") 892), (.int 231 0), (.int 2 0), (.int 0 0), (.int 0 0), (.int 3 0), (.ref 565), (.bool true), (.int 181 0), (.ref 566), .none, (.ref 567), (.ref 568), (.ref 569), (.int 897 0), (.int 231 0), (.str (S "/claim/cut.py") 898)])), (W [])⟩
def o576 (P : Params) : Obj := ⟨(.type "function"), none, (.func ⟨(S "keeps_forcing"), (S "keeps_forcing"), (defArgs (ST 43)), (.stmts (defBody (ST 43))), (defScope (ST 43)), 3, [], .none, .none, .none, (.str (S "nearcall.turns") 871), none, (.ref 570), .none, 0⟩), (W [])⟩
def o577 (P : Params) : Obj := ⟨(.type "tuple"), none, (.seq (V []) 0), (W [])⟩
def o578 (P : Params) : Obj := ⟨.none, none, (.fields (V [])), (W [])⟩
def o579 (P : Params) : Obj := ⟨(.type "tuple"), none, (.seq (V [(.str (S "hall") 903), (.str (S "turn") 904), (.str (S "walls") 905)]) 0), (W [])⟩
def o580 (P : Params) : Obj := ⟨(.type "tuple"), none, (.seq (V []) 0), (W [])⟩
def o581 (P : Params) : Obj := ⟨.none, none, (.func ⟨(S "is_turn"), (S "is_turn"), (defArgs (ST 44)), (.stmts (defBody (ST 44))), (defScope (ST 44)), 0, [], .none, .none, .none, .none, none, .none, .none, 0⟩), (W [])⟩
def o582 (P : Params) : Obj := ⟨(.type "code"), none, (.fields (V [(.str (S "is_turn") 900), (.str (S "is_turn") 901), (.str (S "/claim/cut.py") 902), (.int 237 0), (.int 2 0), (.int 0 0), (.int 0 0), (.int 3 0), (.ref 572), (.bool true), (.int 181 0), (.ref 573), .none, (.ref 574), (.ref 575), (.ref 576), (.int 906 0), (.int 237 0), (.str (S "/claim/cut.py") 907)])), (W [])⟩
def o583 (P : Params) : Obj := ⟨(.type "function"), none, (.func ⟨(S "is_turn"), (S "is_turn"), (defArgs (ST 44)), (.stmts (defBody (ST 44))), (defScope (ST 44)), 3, [], .none, .none, .none, (.str (S "nearcall.turns") 871), none, (.ref 577), .none, 0⟩), (W [])⟩
def o584 (P : Params) : Obj := ⟨(.type "tuple"), none, (.seq (V []) 0), (W [])⟩
def o585 (P : Params) : Obj := ⟨.none, none, (.fields (V [])), (W [])⟩
def o586 (P : Params) : Obj := ⟨(.type "tuple"), none, (.seq (V [(.str (S "hall") 912), (.str (S "turn") 913)]) 0), (W [])⟩
def o587 (P : Params) : Obj := ⟨(.type "tuple"), none, (.seq (V []) 0), (W [])⟩
def o588 (P : Params) : Obj := ⟨.none, none, (.func ⟨(S "checked_turn"), (S "checked_turn"), (defArgs (ST 45)), (.stmts (defBody (ST 45))), (defScope (ST 45)), 0, [], .none, .none, .none, .none, none, .none, .none, 0⟩), (W [])⟩
def o589 (P : Params) : Obj := ⟨(.type "code"), none, (.fields (V [(.str (S "checked_turn") 909), (.str (S "checked_turn") 910), (.str (S "/claim/cut.py") 911), (.int 242 0), (.int 2 0), (.int 0 0), (.int 0 0), (.int 3 0), (.ref 579), (.bool true), (.int 181 0), (.ref 580), .none, (.ref 581), (.ref 582), (.ref 583), (.int 914 0), (.int 242 0), (.str (S "/claim/cut.py") 915)])), (W [])⟩
def o590 (P : Params) : Obj := ⟨(.type "function"), none, (.func ⟨(S "checked_turn"), (S "checked_turn"), (defArgs (ST 45)), (.stmts (defBody (ST 45))), (defScope (ST 45)), 3, [], .none, .none, .none, (.str (S "nearcall.turns") 871), none, (.ref 584), .none, 0⟩), (W [])⟩
def o591 (P : Params) : Obj := ⟨(.type "tuple"), none, (.seq (V []) 0), (W [])⟩
def o592 (P : Params) : Obj := ⟨.none, none, (.fields (V [])), (W [])⟩
def o593 (P : Params) : Obj := ⟨(.type "tuple"), none, (.seq (V [(.str (S "hall") 920), (.str (S "turn") 921), (.str (S "room") 922), (.str (S "into") 923)]) 0), (W [])⟩
def o594 (P : Params) : Obj := ⟨(.type "tuple"), none, (.seq (V []) 0), (W [])⟩
def o595 (P : Params) : Obj := ⟨.none, none, (.func ⟨(S "turned"), (S "turned"), (defArgs (ST 46)), (.stmts (defBody (ST 46))), (defScope (ST 46)), 0, [], .none, .none, .none, .none, none, .none, .none, 0⟩), (W [])⟩
def o596 (P : Params) : Obj := ⟨(.type "code"), none, (.fields (V [(.str (S "turned") 917), (.str (S "turned") 918), (.str (S "/claim/cut.py") 919), (.int 246 0), (.int 3 0), (.int 0 0), (.int 0 0), (.int 3 0), (.ref 586), (.bool true), (.int 181 0), (.ref 587), .none, (.ref 588), (.ref 589), (.ref 590), (.int 924 0), (.int 246 0), (.str (S "/claim/cut.py") 925)])), (W [])⟩
def o597 (P : Params) : Obj := ⟨(.type "function"), none, (.func ⟨(S "turned"), (S "turned"), (defArgs (ST 46)), (.stmts (defBody (ST 46))), (defScope (ST 46)), 3, [], .none, .none, .none, (.str (S "nearcall.turns") 871), none, (.ref 591), .none, 0⟩), (W [])⟩
def o598 (P : Params) : Obj := ⟨(.type "tuple"), none, (.seq (V []) 0), (W [])⟩
def o599 (P : Params) : Obj := ⟨.none, none, (.fields (V [])), (W [])⟩
def o600 (P : Params) : Obj := ⟨(.type "tuple"), none, (.seq (V [(.str (S "hall") 930), (.str (S "turn") 931), (.str (S "part") 932), (.str (S "into") 933)]) 0), (W [])⟩
def o601 (P : Params) : Obj := ⟨(.type "tuple"), none, (.seq (V []) 0), (W [])⟩
def o602 (P : Params) : Obj := ⟨.none, none, (.func ⟨(S "over"), (S "over"), (defArgs (ST 47)), (.stmts (defBody (ST 47))), (defScope (ST 47)), 0, [], .none, .none, .none, .none, none, .none, .none, 0⟩), (W [])⟩
def o603 (P : Params) : Obj := ⟨(.type "code"), none, (.fields (V [(.str (S "over") 927), (.str (S "over") 928), (.str (S "/claim/cut.py") 929), (.int 250 0), (.int 3 0), (.int 0 0), (.int 0 0), (.int 3 0), (.ref 593), (.bool true), (.int 181 0), (.ref 594), .none, (.ref 595), (.ref 596), (.ref 597), (.int 934 0), (.int 250 0), (.str (S "/claim/cut.py") 935)])), (W [])⟩
def o604 (P : Params) : Obj := ⟨(.type "function"), none, (.func ⟨(S "over"), (S "over"), (defArgs (ST 47)), (.stmts (defBody (ST 47))), (defScope (ST 47)), 3, [], .none, .none, .none, (.str (S "nearcall.turns") 871), none, (.ref 598), .none, 0⟩), (W [])⟩
def o605 (P : Params) : Obj := ⟨(.type "tuple"), none, (.seq (V []) 0), (W [])⟩
def o606 (P : Params) : Obj := ⟨.none, none, (.fields (V [])), (W [])⟩
def o607 (P : Params) : Obj := ⟨(.type "tuple"), none, (.seq (V [(.str (S "hall") 940), (.str (S "one") 941), (.str (S "two") 942)]) 0), (W [])⟩
def o608 (P : Params) : Obj := ⟨(.type "tuple"), none, (.seq (V []) 0), (W [])⟩
def o609 (P : Params) : Obj := ⟨.none, none, (.func ⟨(S "turn_behind"), (S "turn_behind"), (defArgs (ST 48)), (.stmts (defBody (ST 48))), (defScope (ST 48)), 0, [], .none, .none, .none, .none, none, .none, .none, 0⟩), (W [])⟩
def o610 (P : Params) : Obj := ⟨(.type "code"), none, (.fields (V [(.str (S "turn_behind") 937), (.str (S "turn_behind") 938), (.str (S "/claim/cut.py") 939), (.int 254 0), (.int 3 0), (.int 0 0), (.int 0 0), (.int 3 0), (.ref 600), (.bool true), (.int 181 0), (.ref 601), .none, (.ref 602), (.ref 603), (.ref 604), (.int 943 0), (.int 254 0), (.str (S "/claim/cut.py") 944)])), (W [])⟩
def o611 (P : Params) : Obj := ⟨(.type "function"), none, (.func ⟨(S "turn_behind"), (S "turn_behind"), (defArgs (ST 48)), (.stmts (defBody (ST 48))), (defScope (ST 48)), 3, [], .none, .none, .none, (.str (S "nearcall.turns") 871), none, (.ref 605), .none, 0⟩), (W [])⟩
def o612 (P : Params) : Obj := ⟨(.type "tuple"), none, (.seq (V []) 0), (W [])⟩
def o613 (P : Params) : Obj := ⟨.none, none, (.fields (V [])), (W [])⟩
def o614 (P : Params) : Obj := ⟨.none, none, (.func ⟨(S "back_turn"), (S "back_turn"), (defArgs (ST 49)), (.stmts (defBody (ST 49))), (defScope (ST 49)), 0, [], .none, .none, .none, .none, none, .none, .none, 0⟩), (W [])⟩
def o615 (P : Params) : Obj := ⟨(.type "code"), none, (.fields (V [(.str (S "back_turn") 946), (.str (S "back_turn") 947), (.str (S "/claim/cut.py") 948), (.int 257 0), (.int 2 0), (.int 0 0), (.int 0 0), (.int 3 0), (.ref 607), (.bool true), (.int 181 0), (.ref 608), .none, .none, .none, (.ref 609), (.int 949 0), (.int 257 0), (.str (S "/claim/cut.py") 950)])), (W [])⟩
def o616 (P : Params) : Obj := ⟨(.type "function"), none, (.func ⟨(S "back_turn"), (S "back_turn"), (defArgs (ST 49)), (.stmts (defBody (ST 49))), (defScope (ST 49)), 3, [], .none, .none, .none, (.str (S "nearcall.turns") 871), none, (.ref 610), .none, 0⟩), (W [])⟩
def o617 (P : Params) : Obj := ⟨(.type "tuple"), none, (.seq (V []) 0), (W [])⟩
def o618 (P : Params) : Obj := ⟨.none, none, (.fields (V [])), (W [])⟩
def o619 (P : Params) : Obj := ⟨(.type "tuple"), none, (.seq (V [(.str (S "hall") 955), (.str (S "turn") 956), (.str (S "into") 957), (.str (S "many") 958), (.str (S "behind") 959)]) 0), (W [])⟩
def o620 (P : Params) : Obj := ⟨(.type "tuple"), none, (.seq (V []) 0), (W [])⟩
def o621 (P : Params) : Obj := ⟨.none, none, (.func ⟨(S "round_of"), (S "round_of"), (defArgs (ST 50)), (.stmts (defBody (ST 50))), (defScope (ST 50)), 0, [], .none, .none, .none, .none, none, .none, .none, 0⟩), (W [])⟩
def o622 (P : Params) : Obj := ⟨(.type "code"), none, (.fields (V [(.str (S "round_of") 952), (.str (S "round_of") 953), (.str (S "/claim/cut.py") 954), (.int 261 0), (.int 2 0), (.int 0 0), (.int 0 0), (.int 3 0), (.ref 612), (.bool true), (.int 181 0), (.ref 613), .none, (.ref 614), (.ref 615), (.ref 616), (.int 960 0), (.int 261 0), (.str (S "/claim/cut.py") 961)])), (W [])⟩
def o623 (P : Params) : Obj := ⟨(.type "function"), none, (.func ⟨(S "round_of"), (S "round_of"), (defArgs (ST 50)), (.stmts (defBody (ST 50))), (defScope (ST 50)), 3, [], .none, .none, .none, (.str (S "nearcall.turns") 871), none, (.ref 617), .none, 0⟩), (W [])⟩
def o624 (P : Params) : Obj := ⟨(.type "tuple"), none, (.seq (V []) 0), (W [])⟩
def o625 (P : Params) : Obj := ⟨.none, none, (.fields (V [])), (W [])⟩
def o626 (P : Params) : Obj := ⟨.none, none, (.func ⟨(S "shut_calls"), (S "shut_calls"), (defArgs (ST 52)), (.stmts (defBody (ST 52))), (defScope (ST 52)), 0, [], .none, .none, .none, .none, none, .none, .none, 0⟩), (W [])⟩
def o627 (P : Params) : Obj := ⟨(.type "code"), none, (.fields (V [(.str (S "shut_calls") 965), (.str (S "shut_calls") 966), (.str (S "/claim/cut.py") 967), (.int 270 0), (.int 3 0), (.int 0 0), (.int 0 0), (.int 3 0), (.ref 619), (.bool true), (.int 181 0), (.ref 620), .none, .none, .none, (.ref 621), (.int 968 0), (.int 270 0), (.str (S "/claim/cut.py") 969)])), (W [])⟩
def o628 (P : Params) : Obj := ⟨(.type "function"), none, (.func ⟨(S "shut_calls"), (S "shut_calls"), (defArgs (ST 52)), (.stmts (defBody (ST 52))), (defScope (ST 52)), 3, [], .none, .none, .none, (.str (S "nearcall.calls") 963), none, (.ref 622), .none, 0⟩), (W [])⟩
def o629 (P : Params) : Obj := ⟨(.type "tuple"), none, (.seq (V []) 0), (W [])⟩
def o630 (P : Params) : Obj := ⟨.none, none, (.fields (V [])), (W [])⟩
def o631 (P : Params) : Obj := ⟨(.type "tuple"), none, (.seq (V [(.str (S "entry") 976)]) 0), (W [])⟩
def o632 (P : Params) : Obj := ⟨(.type "tuple"), none, (.seq (V []) 0), (W [])⟩
def o633 (P : Params) : Obj := ⟨.none, none, (.func ⟨(S "is_fixed"), (S "is_fixed"), (defArgs (ST 54)), (.stmts (defBody (ST 54))), (defScope (ST 54)), 0, [], .none, .none, .none, .none, none, .none, .none, 0⟩), (W [])⟩
def o634 (P : Params) : Obj := ⟨(.type "code"), none, (.fields (V [(.str (S "is_fixed") 973), (.str (S "is_fixed") 974), (.str (S "/claim/cut.py") 975), (.int 275 0), (.int 1 0), (.int 0 0), (.int 0 0), (.int 3 0), (.ref 624), (.bool true), (.int 181 0), (.ref 625), .none, (.ref 626), (.ref 627), (.ref 628), (.int 977 0), (.int 275 0), (.str (S "/claim/cut.py") 978)])), (W [])⟩
def o635 (P : Params) : Obj := ⟨(.type "function"), none, (.func ⟨(S "is_fixed"), (S "is_fixed"), (defArgs (ST 54)), (.stmts (defBody (ST 54))), (defScope (ST 54)), 3, [], .none, .none, .none, (.str (S "nearcall.tables") 971), none, (.ref 629), .none, 0⟩), (W [])⟩
def o636 (P : Params) : Obj := ⟨(.type "tuple"), none, (.seq (V []) 0), (W [])⟩
def o637 (P : Params) : Obj := ⟨.none, none, (.fields (V [])), (W [])⟩
def o638 (P : Params) : Obj := ⟨(.type "tuple"), none, (.seq (V [(.str (S "wall") 983), (.str (S "small") 984)]) 0), (W [])⟩
def o639 (P : Params) : Obj := ⟨(.type "tuple"), none, (.seq (V []) 0), (W [])⟩
def o640 (P : Params) : Obj := ⟨.none, none, (.func ⟨(S "stand_on"), (S "stand_on"), (defArgs (ST 55)), (.stmts (defBody (ST 55))), (defScope (ST 55)), 0, [], .none, .none, .none, .none, none, .none, .none, 0⟩), (W [])⟩
def o641 (P : Params) : Obj := ⟨(.type "code"), none, (.fields (V [(.str (S "stand_on") 980), (.str (S "stand_on") 981), (.str (S "/claim/cut.py") 982), (.int 277 0), (.int 2 0), (.int 0 0), (.int 0 0), (.int 3 0), (.ref 631), (.bool true), (.int 181 0), (.ref 632), .none, (.ref 633), (.ref 634), (.ref 635), (.int 985 0), (.int 277 0), (.str (S "/claim/cut.py") 986)])), (W [])⟩
def o642 (P : Params) : Obj := ⟨(.type "function"), none, (.func ⟨(S "stand_on"), (S "stand_on"), (defArgs (ST 55)), (.stmts (defBody (ST 55))), (defScope (ST 55)), 3, [], .none, .none, .none, (.str (S "nearcall.tables") 971), none, (.ref 636), .none, 0⟩), (W [])⟩
def o643 (P : Params) : Obj := ⟨(.type "tuple"), none, (.seq (V []) 0), (W [])⟩
def o644 (P : Params) : Obj := ⟨.none, none, (.fields (V [])), (W [])⟩
def o645 (P : Params) : Obj := ⟨(.type "tuple"), none, (.seq (V [(.str (S "walls") 991), (.str (S "wall") 992), (.str (S "entry") 993)]) 0), (W [])⟩
def o646 (P : Params) : Obj := ⟨(.type "tuple"), none, (.seq (V []) 0), (W [])⟩
def o647 (P : Params) : Obj := ⟨.none, none, (.func ⟨(S "is_entry"), (S "is_entry"), (defArgs (ST 56)), (.stmts (defBody (ST 56))), (defScope (ST 56)), 0, [], .none, .none, .none, .none, none, .none, .none, 0⟩), (W [])⟩
def o648 (P : Params) : Obj := ⟨(.type "code"), none, (.fields (V [(.str (S "is_entry") 988), (.str (S "is_entry") 989), (.str (S "/claim/cut.py") 990), (.int 279 0), (.int 3 0), (.int 0 0), (.int 0 0), (.int 3 0), (.ref 638), (.bool true), (.int 181 0), (.ref 639), .none, (.ref 640), (.ref 641), (.ref 642), (.int 994 0), (.int 279 0), (.str (S "/claim/cut.py") 995)])), (W [])⟩
def o649 (P : Params) : Obj := ⟨(.type "function"), none, (.func ⟨(S "is_entry"), (S "is_entry"), (defArgs (ST 56)), (.stmts (defBody (ST 56))), (defScope (ST 56)), 3, [], .none, .none, .none, (.str (S "nearcall.tables") 971), none, (.ref 643), .none, 0⟩), (W [])⟩
def o650 (P : Params) : Obj := ⟨(.type "tuple"), none, (.seq (V []) 0), (W [])⟩
def o651 (P : Params) : Obj := ⟨.none, none, (.fields (V [])), (W [])⟩
def o652 (P : Params) : Obj := ⟨(.type "tuple"), none, (.seq (V [(.str (S "wall") 1000), (.str (S "entry") 1001), (.str (S "room") 1002)]) 0), (W [])⟩
def o653 (P : Params) : Obj := ⟨(.type "tuple"), none, (.seq (V []) 0), (W [])⟩
def o654 (P : Params) : Obj := ⟨.none, none, (.func ⟨(S "side_behind"), (S "side_behind"), (defArgs (ST 57)), (.stmts (defBody (ST 57))), (defScope (ST 57)), 0, [], .none, .none, .none, .none, none, .none, .none, 0⟩), (W [])⟩
def o655 (P : Params) : Obj := ⟨(.type "code"), none, (.fields (V [(.str (S "side_behind") 997), (.str (S "side_behind") 998), (.str (S "/claim/cut.py") 999), (.int 281 0), (.int 3 0), (.int 0 0), (.int 0 0), (.int 3 0), (.ref 645), (.bool true), (.int 181 0), (.ref 646), .none, (.ref 647), (.ref 648), (.ref 649), (.int 1003 0), (.int 281 0), (.str (S "/claim/cut.py") 1004)])), (W [])⟩
def o656 (P : Params) : Obj := ⟨(.type "function"), none, (.func ⟨(S "side_behind"), (S "side_behind"), (defArgs (ST 57)), (.stmts (defBody (ST 57))), (defScope (ST 57)), 3, [], .none, .none, .none, (.str (S "nearcall.tables") 971), none, (.ref 650), .none, 0⟩), (W [])⟩
def o657 (P : Params) : Obj := ⟨(.type "tuple"), none, (.seq (V []) 0), (W [])⟩
def o658 (P : Params) : Obj := ⟨.none, none, (.fields (V [])), (W [])⟩
def o659 (P : Params) : Obj := ⟨.none, none, (.func ⟨(S "room_behind"), (S "room_behind"), (defArgs (ST 58)), (.stmts (defBody (ST 58))), (defScope (ST 58)), 0, [], .none, .none, .none, .none, none, .none, .none, 0⟩), (W [])⟩
def o660 (P : Params) : Obj := ⟨(.type "code"), none, (.fields (V [(.str (S "room_behind") 1006), (.str (S "room_behind") 1007), (.str (S "/claim/cut.py") 1008), (.int 285 0), (.int 3 0), (.int 0 0), (.int 0 0), (.int 3 0), (.ref 652), (.bool true), (.int 181 0), (.ref 653), .none, .none, .none, (.ref 654), (.int 1009 0), (.int 285 0), (.str (S "/claim/cut.py") 1010)])), (W [])⟩
def o661 (P : Params) : Obj := ⟨(.type "function"), none, (.func ⟨(S "room_behind"), (S "room_behind"), (defArgs (ST 58)), (.stmts (defBody (ST 58))), (defScope (ST 58)), 3, [], .none, .none, .none, (.str (S "nearcall.tables") 971), none, (.ref 655), .none, 0⟩), (W [])⟩
def o662 (P : Params) : Obj := ⟨(.type "tuple"), none, (.seq (V []) 0), (W [])⟩
def o663 (P : Params) : Obj := ⟨.none, none, (.fields (V [])), (W [])⟩
def o664 (P : Params) : Obj := ⟨(.type "tuple"), none, (.seq (V [(.str (S "wall") 1015), (.str (S "side") 1016), (.str (S "entry") 1017)]) 0), (W [])⟩
def o665 (P : Params) : Obj := ⟨(.type "tuple"), none, (.seq (V []) 0), (W [])⟩
def o666 (P : Params) : Obj := ⟨.none, none, (.func ⟨(S "entry_ahead"), (S "entry_ahead"), (defArgs (ST 59)), (.stmts (defBody (ST 59))), (defScope (ST 59)), 0, [], .none, .none, .none, .none, none, .none, .none, 0⟩), (W [])⟩
def o667 (P : Params) : Obj := ⟨(.type "code"), none, (.fields (V [(.str (S "entry_ahead") 1012), (.str (S "entry_ahead") 1013), (.str (S "/claim/cut.py") 1014), (.int 287 0), (.int 3 0), (.int 0 0), (.int 0 0), (.int 3 0), (.ref 657), (.bool true), (.int 181 0), (.ref 658), .none, (.ref 659), (.ref 660), (.ref 661), (.int 1018 0), (.int 287 0), (.str (S "/claim/cut.py") 1019)])), (W [])⟩
def o668 (P : Params) : Obj := ⟨(.type "function"), none, (.func ⟨(S "entry_ahead"), (S "entry_ahead"), (defArgs (ST 59)), (.stmts (defBody (ST 59))), (defScope (ST 59)), 3, [], .none, .none, .none, (.str (S "nearcall.tables") 971), none, (.ref 662), .none, 0⟩), (W [])⟩
def o669 (P : Params) : Obj := ⟨(.type "tuple"), none, (.seq (V []) 0), (W [])⟩
def o670 (P : Params) : Obj := ⟨.none, none, (.fields (V [])), (W [])⟩
def o671 (P : Params) : Obj := ⟨.none, none, (.func ⟨(S "entries_then"), (S "entries_then"), (defArgs (ST 60)), (.stmts (defBody (ST 60))), (defScope (ST 60)), 0, [], .none, .none, .none, .none, none, .none, .none, 0⟩), (W [])⟩
def o672 (P : Params) : Obj := ⟨(.type "code"), none, (.fields (V [(.str (S "entries_then") 1021), (.str (S "entries_then") 1022), (.str (S "/claim/cut.py") 1023), (.int 291 0), (.int 3 0), (.int 0 0), (.int 0 0), (.int 3 0), (.ref 664), (.bool true), (.int 181 0), (.ref 665), .none, .none, .none, (.ref 666), (.int 1024 0), (.int 291 0), (.str (S "/claim/cut.py") 1025)])), (W [])⟩
def o673 (P : Params) : Obj := ⟨(.type "function"), none, (.func ⟨(S "entries_then"), (S "entries_then"), (defArgs (ST 60)), (.stmts (defBody (ST 60))), (defScope (ST 60)), 3, [], .none, .none, .none, (.str (S "nearcall.tables") 971), none, (.ref 667), .none, 0⟩), (W [])⟩
def o674 (P : Params) : Obj := ⟨(.type "tuple"), none, (.seq (V []) 0), (W [])⟩
def o675 (P : Params) : Obj := ⟨.none, none, (.fields (V [])), (W [])⟩
def o676 (P : Params) : Obj := ⟨(.type "tuple"), none, (.seq (V [(.str (S "hall") 1030), (.str (S "one") 1031), (.str (S "two") 1032)]) 0), (W [])⟩
def o677 (P : Params) : Obj := ⟨(.type "tuple"), none, (.seq (V []) 0), (W [])⟩
def o678 (P : Params) : Obj := ⟨.none, none, (.func ⟨(S "may_meet"), (S "may_meet"), (defArgs (ST 61)), (.stmts (defBody (ST 61))), (defScope (ST 61)), 0, [], .none, .none, .none, .none, none, .none, .none, 0⟩), (W [])⟩
def o679 (P : Params) : Obj := ⟨(.type "code"), none, (.fields (V [(.str (S "may_meet") 1027), (.str (S "may_meet") 1028), (.str (S "/claim/cut.py") 1029), (.int 297 0), (.int 3 0), (.int 0 0), (.int 0 0), (.int 3 0), (.ref 669), (.bool true), (.int 181 0), (.ref 670), .none, (.ref 671), (.ref 672), (.ref 673), (.int 1033 0), (.int 297 0), (.str (S "/claim/cut.py") 1034)])), (W [])⟩
def o680 (P : Params) : Obj := ⟨(.type "function"), none, (.func ⟨(S "may_meet"), (S "may_meet"), (defArgs (ST 61)), (.stmts (defBody (ST 61))), (defScope (ST 61)), 3, [], .none, .none, .none, (.str (S "nearcall.tables") 971), none, (.ref 674), .none, 0⟩), (W [])⟩
def o681 (P : Params) : Obj := ⟨(.type "tuple"), none, (.seq (V []) 0), (W [])⟩
def o682 (P : Params) : Obj := ⟨.none, none, (.fields (V [])), (W [])⟩
def o683 (P : Params) : Obj := ⟨(.type "tuple"), none, (.seq (V [(.str (S "side") 1039), (.str (S "entry") 1040)]) 0), (W [])⟩
def o684 (P : Params) : Obj := ⟨(.type "tuple"), none, (.seq (V []) 0), (W [])⟩
def o685 (P : Params) : Obj := ⟨.none, none, (.func ⟨(S "stood_ahead"), (S "stood_ahead"), (defArgs (ST 62)), (.stmts (defBody (ST 62))), (defScope (ST 62)), 0, [], .none, .none, .none, .none, none, .none, .none, 0⟩), (W [])⟩
def o686 (P : Params) : Obj := ⟨(.type "code"), none, (.fields (V [(.str (S "stood_ahead") 1036), (.str (S "stood_ahead") 1037), (.str (S "/claim/cut.py") 1038), (.int 303 0), (.int 2 0), (.int 0 0), (.int 0 0), (.int 3 0), (.ref 676), (.bool true), (.int 181 0), (.ref 677), .none, (.ref 678), (.ref 679), (.ref 680), (.int 1041 0), (.int 303 0), (.str (S "/claim/cut.py") 1042)])), (W [])⟩
def o687 (P : Params) : Obj := ⟨(.type "function"), none, (.func ⟨(S "stood_ahead"), (S "stood_ahead"), (defArgs (ST 62)), (.stmts (defBody (ST 62))), (defScope (ST 62)), 3, [], .none, .none, .none, (.str (S "nearcall.tables") 971), none, (.ref 681), .none, 0⟩), (W [])⟩
def o688 (P : Params) : Obj := ⟨(.type "tuple"), none, (.seq (V []) 0), (W [])⟩
def o689 (P : Params) : Obj := ⟨.none, none, (.fields (V [])), (W [])⟩
def o690 (P : Params) : Obj := ⟨.none, none, (.func ⟨(S "leads_to_rooms"), (S "leads_to_rooms"), (defArgs (ST 63)), (.stmts (defBody (ST 63))), (defScope (ST 63)), 0, [], .none, .none, .none, .none, none, .none, .none, 0⟩), (W [])⟩
def o691 (P : Params) : Obj := ⟨(.type "code"), none, (.fields (V [(.str (S "leads_to_rooms") 1044), (.str (S "leads_to_rooms") 1045), (.str (S "/claim/cut.py") 1046), (.int 307 0), (.int 2 0), (.int 0 0), (.int 0 0), (.int 3 0), (.ref 683), (.bool true), (.int 181 0), (.ref 684), .none, .none, .none, (.ref 685), (.int 1047 0), (.int 307 0), (.str (S "/claim/cut.py") 1048)])), (W [])⟩
def o692 (P : Params) : Obj := ⟨(.type "function"), none, (.func ⟨(S "leads_to_rooms"), (S "leads_to_rooms"), (defArgs (ST 63)), (.stmts (defBody (ST 63))), (defScope (ST 63)), 3, [], .none, .none, .none, (.str (S "nearcall.tables") 971), none, (.ref 686), .none, 0⟩), (W [])⟩
def o693 (P : Params) : Obj := ⟨(.type "tuple"), none, (.seq (V []) 0), (W [])⟩
def o694 (P : Params) : Obj := ⟨.none, none, (.fields (V [])), (W [])⟩
def o695 (P : Params) : Obj := ⟨(.type "tuple"), none, (.seq (V [(.str (S "hall") 1053), (.str (S "entries") 1054), (.str (S "walls") 1055), (.str (S "at") 1056), (.str (S "entry") 1057)]) 0), (W [])⟩
def o696 (P : Params) : Obj := ⟨(.type "tuple"), none, (.seq (V []) 0), (W [])⟩
def o697 (P : Params) : Obj := ⟨.none, none, (.func ⟨(S "check_entries"), (S "check_entries"), (defArgs (ST 64)), (.stmts (defBody (ST 64))), (defScope (ST 64)), 0, [], .none, .none, .none, .none, none, .none, .none, 0⟩), (W [])⟩
def o698 (P : Params) : Obj := ⟨(.type "code"), none, (.fields (V [(.str (S "check_entries") 1050), (.str (S "check_entries") 1051), (.str (S "/claim/cut.py") 1052), (.int 315 0), (.int 2 0), (.int 0 0), (.int 0 0), (.int 3 0), (.ref 688), (.bool true), (.int 181 0), (.ref 689), .none, (.ref 690), (.ref 691), (.ref 692), (.int 1058 0), (.int 315 0), (.str (S "/claim/cut.py") 1059)])), (W [])⟩
def o699 (P : Params) : Obj := ⟨(.type "function"), none, (.func ⟨(S "check_entries"), (S "check_entries"), (defArgs (ST 64)), (.stmts (defBody (ST 64))), (defScope (ST 64)), 3, [], .none, .none, .none, (.str (S "nearcall.tables") 971), none, (.ref 693), .none, 0⟩), (W [])⟩
def o700 (P : Params) : Obj := ⟨(.type "tuple"), none, (.seq (V []) 0), (W [])⟩
def o701 (P : Params) : Obj := ⟨.none, none, (.fields (V [])), (W [])⟩
def o702 (P : Params) : Obj := ⟨(.type "tuple"), none, (.seq (V [(.str (S "one") 1064), (.str (S "two") 1065)]) 0), (W [])⟩
def o703 (P : Params) : Obj := ⟨(.type "tuple"), none, (.seq (V []) 0), (W [])⟩
def o704 (P : Params) : Obj := ⟨.none, none, (.func ⟨(S "check_same_hall"), (S "check_same_hall"), (defArgs (ST 65)), (.stmts (defBody (ST 65))), (defScope (ST 65)), 0, [], .none, .none, .none, .none, none, .none, .none, 0⟩), (W [])⟩
def o705 (P : Params) : Obj := ⟨(.type "code"), none, (.fields (V [(.str (S "check_same_hall") 1061), (.str (S "check_same_hall") 1062), (.str (S "/claim/cut.py") 1063), (.int 324 0), (.int 2 0), (.int 0 0), (.int 0 0), (.int 3 0), (.ref 695), (.bool true), (.int 181 0), (.ref 696), .none, (.ref 697), (.ref 698), (.ref 699), (.int 1066 0), (.int 324 0), (.str (S "/claim/cut.py") 1067)])), (W [])⟩
def o706 (P : Params) : Obj := ⟨(.type "function"), none, (.func ⟨(S "check_same_hall"), (S "check_same_hall"), (defArgs (ST 65)), (.stmts (defBody (ST 65))), (defScope (ST 65)), 3, [], .none, .none, .none, (.str (S "nearcall.tables") 971), none, (.ref 700), .none, 0⟩), (W [])⟩
def objs_5 (P : Params) : List Obj :=
  [boot_o_0 P, boot_o_1 P, o248 P, o556 P, boot_o_4 P, boot_o_5 P, boot_o_6 P, boot_o_7 P, boot_o_8 P, boot_o_9 P, boot_o_10 P, o0 P, o557 P, o2 P, o3 P, o6 P, o7 P, o8 P, o9 P, o10 P, o11 P, o12 P, o13 P, o14 P, o15 P, o16 P, o17 P, o18 P, o19 P, o20 P, o21 P, o22 P, o23 P, o24 P, o25 P, o26 P, o27 P, o28 P, o251 P, o30 P] ++ (
  [o31 P, o32 P, o33 P, o34 P, o35 P, o36 P, o37 P, o38 P, o39 P, o40 P, o41 P, o42 P, o43 P, o44 P, o45 P, o46 P, o47 P, o48 P, o49 P, o50 P, o51 P, o52 P, o53 P, o54 P, o55 P, o56 P, o57 P, o58 P, o59 P, o60 P, o61 P, o62 P, o63 P, o64 P, o65 P, o66 P, o67 P, o68 P, o69 P, o70 P] ++ (
  [o71 P, o72 P, o73 P, o74 P, o75 P, o76 P, o77 P, o78 P, o79 P, o80 P, o81 P, o82 P, o83 P, o84 P, o85 P, o86 P, o87 P, o88 P, o89 P, o93 P, o94 P, o95 P, o96 P, o97 P, o98 P, o99 P, o100 P, o101 P, o102 P, o103 P, o104 P, o105 P, o106 P, o107 P, o108 P, o109 P, o110 P, o111 P, o112 P, o113 P] ++ (
  [o114 P, o115 P, o116 P, o117 P, o118 P, o119 P, o120 P, o121 P, o122 P, o123 P, o124 P, o125 P, o126 P, o127 P, o128 P, o129 P, o130 P, o131 P, o132 P, o133 P, o134 P, o135 P, o136 P, o137 P, o138 P, o139 P, o140 P, o141 P, o142 P, o143 P, o144 P, o145 P, o146 P, o147 P, o148 P, o149 P, o150 P, o151 P, o152 P, o153 P] ++ (
  [o154 P, o155 P, o156 P, o157 P, o158 P, o159 P, o160 P, o161 P, o162 P, o163 P, o164 P, o165 P, o166 P, o167 P, o168 P, o172 P, o173 P, o174 P, o175 P, o176 P, o177 P, o178 P, o179 P, o180 P, o181 P, o182 P, o183 P, o184 P, o185 P, o186 P, o187 P, o188 P, o189 P, o190 P, o191 P, o192 P, o193 P, o194 P, o195 P, o196 P] ++ (
  [o197 P, o198 P, o199 P, o200 P, o201 P, o202 P, o203 P, o204 P, o205 P, o206 P, o207 P, o208 P, o209 P, o210 P, o211 P, o212 P, o213 P, o214 P, o215 P, o216 P, o217 P, o218 P, o219 P, o220 P, o221 P, o222 P, o223 P, o224 P, o225 P, o226 P, o227 P, o228 P, o229 P, o230 P, o231 P, o232 P, o233 P, o234 P, o235 P, o236 P] ++ (
  [o237 P, o238 P, o239 P, o240 P, o241 P, o242 P, o243 P, o244 P, o245 P, o246 P, o247 P, o252 P, o253 P, o254 P, o255 P, o256 P, o257 P, o258 P, o259 P, o260 P, o261 P, o262 P, o263 P, o264 P, o265 P, o266 P, o267 P, o268 P, o269 P, o270 P, o271 P, o272 P, o273 P, o274 P, o275 P, o276 P, o277 P, o278 P, o279 P, o280 P] ++ (
  [o281 P, o282 P, o283 P, o284 P, o285 P, o286 P, o287 P, o288 P, o289 P, o290 P, o291 P, o292 P, o293 P, o294 P, o295 P, o296 P, o297 P, o298 P, o299 P, o300 P, o301 P, o302 P, o303 P, o304 P, o305 P, o306 P, o307 P, o308 P, o309 P, o310 P, o311 P, o312 P, o313 P, o314 P, o315 P, o316 P, o317 P, o318 P, o319 P, o320 P] ++ (
  [o321 P, o322 P, o323 P, o324 P, o325 P, o326 P, o327 P, o328 P, o329 P, o330 P, o331 P, o332 P, o333 P, o334 P, o335 P, o336 P, o337 P, o338 P, o339 P, o340 P, o341 P, o342 P, o343 P, o344 P, o345 P, o346 P, o347 P, o348 P, o349 P, o350 P, o351 P, o352 P, o353 P, o354 P, o355 P, o356 P, o357 P, o358 P, o359 P, o360 P] ++ (
  [o361 P, o362 P, o363 P, o364 P, o365 P, o366 P, o367 P, o368 P, o369 P, o370 P, o371 P, o372 P, o373 P, o374 P, o377 P, o378 P, o379 P, o380 P, o381 P, o382 P, o383 P, o384 P, o385 P, o386 P, o387 P, o388 P, o389 P, o390 P, o391 P, o392 P, o393 P, o394 P, o395 P, o396 P, o397 P, o398 P, o399 P, o400 P, o401 P, o402 P] ++ (
  [o403 P, o404 P, o405 P, o406 P, o407 P, o408 P, o409 P, o410 P, o411 P, o412 P, o413 P, o414 P, o415 P, o416 P, o417 P, o418 P, o419 P, o420 P, o421 P, o422 P, o423 P, o424 P, o425 P, o426 P, o427 P, o428 P, o429 P, o430 P, o431 P, o432 P, o433 P, o434 P, o435 P, o436 P, o437 P, o438 P, o439 P, o440 P, o441 P, o442 P] ++ (
  [o443 P, o444 P, o445 P, o446 P, o447 P, o448 P, o449 P, o450 P, o451 P, o452 P, o453 P, o454 P, o455 P, o456 P, o457 P, o458 P, o459 P, o460 P, o461 P, o462 P, o463 P, o464 P, o465 P, o466 P, o467 P, o468 P, o469 P, o470 P, o471 P, o472 P, o473 P, o474 P, o475 P, o476 P, o477 P, o478 P, o479 P, o480 P, o481 P, o482 P] ++ (
  [o483 P, o484 P, o485 P, o486 P, o487 P, o488 P, o489 P, o490 P, o491 P, o492 P, o493 P, o494 P, o495 P, o496 P, o497 P, o498 P, o499 P, o500 P, o501 P, o502 P, o503 P, o504 P, o505 P, o506 P, o507 P, o508 P, o509 P, o510 P, o511 P, o512 P, o513 P, o514 P, o515 P, o516 P, o517 P, o518 P, o519 P, o520 P, o521 P, o522 P] ++ (
  [o523 P, o524 P, o525 P, o526 P, o527 P, o528 P, o529 P, o530 P, o531 P, o532 P, o533 P, o534 P, o535 P, o536 P, o537 P, o538 P, o539 P, o540 P, o541 P, o542 P, o543 P, o544 P, o545 P, o546 P, o547 P, o548 P, o549 P, o550 P, o551 P, o552 P, o553 P, o554 P, o555 P, o558 P, o559 P, o560 P, o561 P, o562 P, o563 P, o564 P] ++ (
  [o565 P, o566 P, o567 P, o568 P, o569 P, o570 P, o571 P, o572 P, o573 P, o574 P, o575 P, o576 P, o577 P, o578 P, o579 P, o580 P, o581 P, o582 P, o583 P, o584 P, o585 P, o586 P, o587 P, o588 P, o589 P, o590 P, o591 P, o592 P, o593 P, o594 P, o595 P, o596 P, o597 P, o598 P, o599 P, o600 P, o601 P, o602 P, o603 P, o604 P] ++ (
  [o605 P, o606 P, o607 P, o608 P, o609 P, o610 P, o611 P, o612 P, o613 P, o614 P, o615 P, o616 P, o617 P, o618 P, o619 P, o620 P, o621 P, o622 P, o623 P, o624 P, o625 P, o626 P, o627 P, o628 P, o629 P, o630 P, o631 P, o632 P, o633 P, o634 P, o635 P, o636 P, o637 P, o638 P, o639 P, o640 P, o641 P, o642 P, o643 P, o644 P] ++ (
  [o645 P, o646 P, o647 P, o648 P, o649 P, o650 P, o651 P, o652 P, o653 P, o654 P, o655 P, o656 P, o657 P, o658 P, o659 P, o660 P, o661 P, o662 P, o663 P, o664 P, o665 P, o666 P, o667 P, o668 P, o669 P, o670 P, o671 P, o672 P, o673 P, o674 P, o675 P, o676 P, o677 P, o678 P, o679 P, o680 P, o681 P, o682 P, o683 P, o684 P] ++ (
  [o685 P, o686 P, o687 P, o688 P, o689 P, o690 P, o691 P, o692 P, o693 P, o694 P, o695 P, o696 P, o697 P, o698 P, o699 P, o700 P, o701 P, o702 P, o703 P, o704 P, o705 P, o706 P])))))))))))))))))
def o707 (P : Params) : Obj := ⟨(.type "dict"), none, (.dict (D [E P (S "__name__") 165 (.str (S "law_nearcall_k18_turns_refused") 1252), E P (S "__doc__") 166 .none, E P (S "__package__") 167 .none, E P (S "__loader__") 168 (.builtin "__main__.__loader__#opaque"), E P (S "__spec__") 169 .none, E P (S "__annotations__") 170 (.ref 6), E P (S "__builtins__") 171 (.ref 4), E P (S "__file__") 173 (.str (S "/claim/cut.py") 172), E P (S "__cached__") 174 .none, E P (S "_wall") 193 (.ref 21), E P (S "HallError") 222 (.ref 38), E P (S "BadWalls") 245 (.ref 58), E P (S "BadBar") 270 (.ref 77), E P (S "BadSide") 293 (.ref 96), E P (S "Fixed") 318 (.ref 115), E P (S "Alike") 345 (.ref 134), E P (S "BadRoom") 368 (.ref 153), E P (S "BadPart") 391 (.ref 172), E P (S "Empty") 416 (.ref 191), E P (S "BadTurn") 439 (.ref 210), E P (S "BadTable") 464 (.ref 229), E P (S "OtherHall") 487 (.ref 248), E P (S "TooMany") 512 (.ref 267), E P (S "Missing") 539 (.ref 286), E P (S "NothingLeft") 567 (.ref 306), E P (S "WIDEST") 571 (.int 12 570), E P (S "other") 578 (.ref 316), E P (S "sides_of") 585 (.ref 323), E P (S "by_walls") 591 (.ref 328), E P (S "is_walls") 597 (.ref 333), E P (S "is_bar") 606 (.ref 340), E P (S "check_walls") 613 (.ref 347), E P (S "check_bars") 623 (.ref 354), E P (S "check_side") 631 (.ref 361), E P (S "check_room") 639 (.ref 368), E P (S "straight_from") 645 (.ref 373), E P (S "reached") 658 (.ref 380), E P (S "all_forced") 664 (.ref 385), E P (S "check_fixed") 672 (.ref 392), E P (S "check_alike") 681 (.ref 399), E P (S "Hall") 828 (.ref 517), E P (S "is_part") 841 (.ref 528), E P (S "check_part") 849 (.ref 535), E P (S "all_forced_by") 855 (.ref 540), E P (S "torn_walls") 861 (.ref 545), E P (S "shut") 870 (.ref 552), E P (S "goes_over") 883 (.ref 559), E P (S "sides_over") 889 (.ref 564), E P (S "keeps_forcing") 899 (.ref 571), E P (S "is_turn") 908 (.ref 578), E P (S "checked_turn") 916 (.ref 585), E P (S "turned") 926 (.ref 592), E P (S "over") 936 (.ref 599), E P (S "turn_behind") 945 (.ref 606), E P (S "back_turn") 951 (.ref 611), E P (S "round_of") 962 (.ref 618), E P (S "shut_calls") 970 (.ref 623), E P (S "is_fixed") 979 (.ref 630), E P (S "stand_on") 987 (.ref 637), E P (S "is_entry") 996 (.ref 644), E P (S "side_behind") 1005 (.ref 651), E P (S "room_behind") 1011 (.ref 656), E P (S "entry_ahead") 1020 (.ref 663), E P (S "entries_then") 1026 (.ref 668), E P (S "may_meet") 1035 (.ref 675), E P (S "stood_ahead") 1043 (.ref 682), E P (S "leads_to_rooms") 1049 (.ref 687), E P (S "check_entries") 1060 (.ref 694), E P (S "check_same_hall") 1068 (.ref 701), E P (S "Table") 1173 (.ref 786), E P (S "of_call") 1179 (.ref 795), E P (S "of_turn") 1187 (.ref 802), E P (S "MOST_CALLS") 1191 (.int 12 1190), E P (S "MOST_TURNS") 1193 (.int 400 1192), E P (S "rooms_met") 1209 (.ref 809), E P (S "call_moves") 1215 (.ref 814), E P (S "turns_made") 1229 (.ref 821), E P (S "needed_turns") 1235 (.ref 826), E P (S "steps_back") 1245 (.ref 833), E P (S "steer_turning") 1251 (.ref 838), E P (S "_law_start") 1262 (.ref 845), E P (S "_law_draw") 1273 (.ref 852), E P (S "_law_of") 1281 (.ref 859), E P (S "_law_mixed") 1287 (.ref 864), E P (S "_law_letters") 1293 (.ref 871), E P (S "_law_shuts") 1304 (.ref 878)]) 86), (W [])⟩
def o708 (P : Params) : Obj := ⟨.none, none, (.fields (V [(.int 1 0), (.int 0 0), (.ref 20), (.int 5 0), (.int 0 0), (.ref 27), (.int 10 0), (.int 0 0), (.ref 47), (.int 14 0), (.int 0 0), (.ref 66), (.int 19 0), (.int 0 0), (.ref 85), (.int 23 0), (.int 0 0), (.ref 104), (.int 28 0), (.int 0 0), (.ref 123), (.int 34 0), (.int 0 0), (.ref 142), (.int 38 0), (.int 0 0), (.ref 161), (.int 42 0), (.int 0 0), (.ref 180), (.int 47 0), (.int 0 0), (.ref 199), (.int 51 0), (.int 0 0), (.ref 218), (.int 56 0), (.int 0 0), (.ref 237), (.int 60 0), (.int 0 0), (.ref 256), (.int 65 0), (.int 0 0), (.ref 275), (.int 70 0), (.int 0 0), (.ref 295), (.int 77 0), (.int 0 0), (.ref 315), (.int 79 0), (.int 0 0), (.ref 322), (.int 81 0), (.int 0 0), (.ref 327), (.int 83 0), (.int 0 0), (.ref 332), (.int 86 0), (.int 0 0), (.ref 339), (.int 91 0), (.int 0 0), (.ref 346), (.int 94 0), (.int 0 0), (.ref 353), (.int 98 0), (.int 0 0), (.ref 360), (.int 101 0), (.int 0 0), (.ref 367), (.int 104 0), (.int 0 0), (.ref 372), (.int 110 0), (.int 0 0), (.ref 379), (.int 122 0), (.int 0 0), (.ref 384), (.int 125 0), (.int 0 0), (.ref 391), (.int 129 0), (.int 0 0), (.ref 398), (.int 134 0), (.int 0 0), (.ref 405), (.int 200 0), (.int 0 0), (.ref 527), (.int 208 0), (.int 0 0), (.ref 534), (.int 211 0), (.int 0 0), (.ref 539), (.int 213 0), (.int 0 0), (.ref 544), (.int 216 0), (.int 0 0), (.ref 551), (.int 223 0), (.int 0 0), (.ref 558), (.int 229 0), (.int 0 0), (.ref 563), (.int 231 0), (.int 0 0), (.ref 570), (.int 237 0), (.int 0 0), (.ref 577), (.int 242 0), (.int 0 0), (.ref 584), (.int 246 0), (.int 0 0), (.ref 591), (.int 250 0), (.int 0 0), (.ref 598), (.int 254 0), (.int 0 0), (.ref 605), (.int 257 0), (.int 0 0), (.ref 610), (.int 261 0), (.int 0 0), (.ref 617), (.int 270 0), (.int 0 0), (.ref 622), (.int 275 0), (.int 0 0), (.ref 629), (.int 277 0), (.int 0 0), (.ref 636), (.int 279 0), (.int 0 0), (.ref 643), (.int 281 0), (.int 0 0), (.ref 650), (.int 285 0), (.int 0 0), (.ref 655), (.int 287 0), (.int 0 0), (.ref 662), (.int 291 0), (.int 0 0), (.ref 667), (.int 297 0), (.int 0 0), (.ref 674), (.int 303 0), (.int 0 0), (.ref 681), (.int 307 0), (.int 0 0), (.ref 686), (.int 315 0), (.int 0 0), (.ref 693), (.int 324 0), (.int 0 0), (.ref 700), (.int 327 0), (.int 0 0), (.ref 707), (.int 364 0), (.int 0 0), (.ref 794), (.int 367 0), (.int 0 0), (.ref 801), (.int 372 0), (.int 0 0), (.ref 808), (.int 385 0), (.int 0 0), (.ref 813), (.int 387 0), (.int 0 0), (.ref 820), (.int 402 0), (.int 0 0), (.ref 825), (.int 410 0), (.int 0 0), (.ref 832), (.int 417 0), (.int 0 0), (.ref 837), (.int 427 0), (.int 0 0), (.ref 844), (.int 432 0), (.int 0 0), (.ref 851), (.int 447 0), (.int 0 0), (.ref 858), (.int 449 0), (.int 0 0), (.ref 863), (.int 452 0), (.int 0 0), (.ref 870), (.int 454 0), (.int 0 0), (.ref 877)])), (W [])⟩
def o709 (P : Params) : Obj := ⟨(.type "tuple"), none, (.seq (V []) 0), (W [])⟩
def o710 (P : Params) : Obj := ⟨(.type "builtin_function_or_method"), none, (.fields (V [(.builtin "type.__prepare__"), (.type "type")])), (W [])⟩
def o711 (P : Params) : Obj := ⟨(.type "dict"), none, (.dict (D [E P (S "__module__") 1076 (.str (S "nearcall.tables") 971), E P (S "__qualname__") 1078 (.str (S "Table") 1077), E P (S "__firstlineno__") 1080 (.int 327 1079), E P (S "__init__") 1089 (.ref 715), E P (S "hall") 1096 (.ref 722), E P (S "entries") 1103 (.ref 729), E P (S "led") 1111 (.ref 736), E P (S "then") 1119 (.ref 743), E P (S "times") 1127 (.ref 750), E P (S "fixed") 1133 (.ref 755), E P (S "__eq__") 1141 (.ref 762), E P (S "__len__") 1148 (.ref 769), E P (S "__str__") 1155 (.ref 776), E P (S "__repr__") 1162 (.ref 783), E P (S "__static_attributes__") 1165 (.ref 784)]) 15), (W [])⟩
def o712 (P : Params) : Obj := ⟨(.type "tuple"), none, (.seq (V []) 0), (W [])⟩
def o713 (P : Params) : Obj := ⟨.none, none, (.fields (V [(.int 329 0), (.int 4 0), (.ref 714), (.int 334 0), (.int 4 0), (.ref 721), (.int 337 0), (.int 4 0), (.ref 728), (.int 340 0), (.int 4 0), (.ref 735), (.int 343 0), (.int 4 0), (.ref 742), (.int 347 0), (.int 4 0), (.ref 749), (.int 350 0), (.int 4 0), (.ref 754), (.int 353 0), (.int 4 0), (.ref 761), (.int 356 0), (.int 4 0), (.ref 768), (.int 359 0), (.int 4 0), (.ref 775), (.int 362 0), (.int 4 0), (.ref 782)])), (W [])⟩
def o714 (P : Params) : Obj := ⟨(.type "code"), none, (.fields (V [(.str (S "Table") 1071), (.str (S "Table") 1072), (.str (S "/claim/cut.py") 1073), (.int 327 0), (.int 0 0), (.int 0 0), (.int 0 0), (.int 0 0), (.ref 705), (.bool false), (.int 181 0), (.ref 706), .none, .none, .none, .none, (.int 1074 0), (.int 327 0), (.str (S "/claim/cut.py") 1075)])), (W [])⟩
def o715 (P : Params) : Obj := ⟨(.type "frame"), none, .plain, (W [(some (.ref 707)), (some (.ref 3)), (some (.ref 704)), none, (some (.str (S "nearcall.tables") 971)), none, (some (.ref 0))])⟩
def o716 (P : Params) : Obj := ⟨(.type "tuple"), none, (.seq (V []) 0), (W [])⟩
def o717 (P : Params) : Obj := ⟨.none, none, (.fields (V [])), (W [])⟩
def o718 (P : Params) : Obj := ⟨(.type "tuple"), none, (.seq (V [(.str (S "self") 1084), (.str (S "hall") 1085), (.str (S "entries") 1086)]) 0), (W [])⟩
def o719 (P : Params) : Obj := ⟨(.type "tuple"), none, (.seq (V []) 0), (W [])⟩
def o720 (P : Params) : Obj := ⟨.none, none, (.func ⟨(S "__init__"), (S "Table.__init__"), (defArgs (inClass (ST 66) 0)), (.stmts (defBody (inClass (ST 66) 0))), (defScope (inClass (ST 66) 0)), 0, [], .none, .none, .none, .none, none, .none, .none, 0⟩), (W [])⟩
def o721 (P : Params) : Obj := ⟨(.type "code"), none, (.fields (V [(.str (S "__init__") 1081), (.str (S "Table.__init__") 1082), (.str (S "/claim/cut.py") 1083), (.int 329 0), (.int 3 0), (.int 0 0), (.int 0 0), (.int 3 0), (.ref 709), (.bool true), (.int 181 0), (.ref 710), .none, (.ref 711), (.ref 712), (.ref 713), (.int 1087 0), (.int 329 0), (.str (S "/claim/cut.py") 1088)])), (W [])⟩
def o722 (P : Params) : Obj := ⟨(.type "function"), none, (.func ⟨(S "__init__"), (S "Table.__init__"), (defArgs (inClass (ST 66) 0)), (.stmts (defBody (inClass (ST 66) 0))), (defScope (inClass (ST 66) 0)), 3, [], .none, .none, .none, (.str (S "nearcall.tables") 971), none, (.ref 714), .none, 0⟩), (W [])⟩
def o723 (P : Params) : Obj := ⟨(.type "tuple"), none, (.seq (V []) 0), (W [])⟩
def o724 (P : Params) : Obj := ⟨.none, none, (.fields (V [])), (W [])⟩
def o725 (P : Params) : Obj := ⟨(.type "tuple"), none, (.seq (V [(.str (S "self") 1093)]) 0), (W [])⟩
def o726 (P : Params) : Obj := ⟨(.type "tuple"), none, (.seq (V []) 0), (W [])⟩
def o727 (P : Params) : Obj := ⟨.none, none, (.func ⟨(S "hall"), (S "Table.hall"), (defArgs (inClass (ST 66) 1)), (.stmts (defBody (inClass (ST 66) 1))), (defScope (inClass (ST 33) 1)), 0, [], .none, .none, .none, .none, none, .none, .none, 0⟩), (W [])⟩
def o728 (P : Params) : Obj := ⟨(.type "code"), none, (.fields (V [(.str (S "hall") 1090), (.str (S "Table.hall") 1091), (.str (S "/claim/cut.py") 1092), (.int 334 0), (.int 1 0), (.int 0 0), (.int 0 0), (.int 3 0), (.ref 716), (.bool true), (.int 181 0), (.ref 717), .none, (.ref 718), (.ref 719), (.ref 720), (.int 1094 0), (.int 334 0), (.str (S "/claim/cut.py") 1095)])), (W [])⟩
def o729 (P : Params) : Obj := ⟨(.type "function"), none, (.func ⟨(S "hall"), (S "Table.hall"), (defArgs (inClass (ST 66) 1)), (.stmts (defBody (inClass (ST 66) 1))), (defScope (inClass (ST 33) 1)), 3, [], .none, .none, .none, (.str (S "nearcall.tables") 971), none, (.ref 721), .none, 0⟩), (W [])⟩
def o730 (P : Params) : Obj := ⟨(.type "tuple"), none, (.seq (V []) 0), (W [])⟩
def o731 (P : Params) : Obj := ⟨.none, none, (.fields (V [])), (W [])⟩
def o732 (P : Params) : Obj := ⟨(.type "tuple"), none, (.seq (V [(.str (S "self") 1100)]) 0), (W [])⟩
def o733 (P : Params) : Obj := ⟨(.type "tuple"), none, (.seq (V []) 0), (W [])⟩
def o734 (P : Params) : Obj := ⟨.none, none, (.func ⟨(S "entries"), (S "Table.entries"), (defArgs (inClass (ST 66) 2)), (.stmts (defBody (inClass (ST 66) 2))), (defScope (inClass (ST 33) 1)), 0, [], .none, .none, .none, .none, none, .none, .none, 0⟩), (W [])⟩
def o735 (P : Params) : Obj := ⟨(.type "code"), none, (.fields (V [(.str (S "entries") 1097), (.str (S "Table.entries") 1098), (.str (S "/claim/cut.py") 1099), (.int 337 0), (.int 1 0), (.int 0 0), (.int 0 0), (.int 3 0), (.ref 723), (.bool true), (.int 181 0), (.ref 724), .none, (.ref 725), (.ref 726), (.ref 727), (.int 1101 0), (.int 337 0), (.str (S "/claim/cut.py") 1102)])), (W [])⟩
def o736 (P : Params) : Obj := ⟨(.type "function"), none, (.func ⟨(S "entries"), (S "Table.entries"), (defArgs (inClass (ST 66) 2)), (.stmts (defBody (inClass (ST 66) 2))), (defScope (inClass (ST 33) 1)), 3, [], .none, .none, .none, (.str (S "nearcall.tables") 971), none, (.ref 728), .none, 0⟩), (W [])⟩
def o737 (P : Params) : Obj := ⟨(.type "tuple"), none, (.seq (V []) 0), (W [])⟩
def o738 (P : Params) : Obj := ⟨.none, none, (.fields (V [])), (W [])⟩
def o739 (P : Params) : Obj := ⟨(.type "tuple"), none, (.seq (V [(.str (S "self") 1107), (.str (S "room") 1108)]) 0), (W [])⟩
def o740 (P : Params) : Obj := ⟨(.type "tuple"), none, (.seq (V []) 0), (W [])⟩
def o741 (P : Params) : Obj := ⟨.none, none, (.func ⟨(S "led"), (S "Table.led"), (defArgs (inClass (ST 66) 3)), (.stmts (defBody (inClass (ST 66) 3))), (defScope (inClass (ST 33) 8)), 0, [], .none, .none, .none, .none, none, .none, .none, 0⟩), (W [])⟩
def o742 (P : Params) : Obj := ⟨(.type "code"), none, (.fields (V [(.str (S "led") 1104), (.str (S "Table.led") 1105), (.str (S "/claim/cut.py") 1106), (.int 340 0), (.int 2 0), (.int 0 0), (.int 0 0), (.int 3 0), (.ref 730), (.bool true), (.int 181 0), (.ref 731), .none, (.ref 732), (.ref 733), (.ref 734), (.int 1109 0), (.int 340 0), (.str (S "/claim/cut.py") 1110)])), (W [])⟩
def o743 (P : Params) : Obj := ⟨(.type "function"), none, (.func ⟨(S "led"), (S "Table.led"), (defArgs (inClass (ST 66) 3)), (.stmts (defBody (inClass (ST 66) 3))), (defScope (inClass (ST 33) 8)), 3, [], .none, .none, .none, (.str (S "nearcall.tables") 971), none, (.ref 735), .none, 0⟩), (W [])⟩
def o744 (P : Params) : Obj := ⟨(.type "tuple"), none, (.seq (V []) 0), (W [])⟩
def o745 (P : Params) : Obj := ⟨.none, none, (.fields (V [])), (W [])⟩
def o746 (P : Params) : Obj := ⟨(.type "tuple"), none, (.seq (V [(.str (S "self") 1115), (.str (S "later") 1116)]) 0), (W [])⟩
def o747 (P : Params) : Obj := ⟨(.type "tuple"), none, (.seq (V []) 0), (W [])⟩
def o748 (P : Params) : Obj := ⟨.none, none, (.func ⟨(S "then"), (S "Table.then"), (defArgs (inClass (ST 66) 4)), (.stmts (defBody (inClass (ST 66) 4))), (defScope (inClass (ST 66) 4)), 0, [], .none, .none, .none, .none, none, .none, .none, 0⟩), (W [])⟩
def o749 (P : Params) : Obj := ⟨(.type "code"), none, (.fields (V [(.str (S "then") 1112), (.str (S "Table.then") 1113), (.str (S "/claim/cut.py") 1114), (.int 343 0), (.int 2 0), (.int 0 0), (.int 0 0), (.int 3 0), (.ref 737), (.bool true), (.int 181 0), (.ref 738), .none, (.ref 739), (.ref 740), (.ref 741), (.int 1117 0), (.int 343 0), (.str (S "/claim/cut.py") 1118)])), (W [])⟩
def o750 (P : Params) : Obj := ⟨(.type "function"), none, (.func ⟨(S "then"), (S "Table.then"), (defArgs (inClass (ST 66) 4)), (.stmts (defBody (inClass (ST 66) 4))), (defScope (inClass (ST 66) 4)), 3, [], .none, .none, .none, (.str (S "nearcall.tables") 971), none, (.ref 742), .none, 0⟩), (W [])⟩
def o751 (P : Params) : Obj := ⟨(.type "tuple"), none, (.seq (V []) 0), (W [])⟩
def o752 (P : Params) : Obj := ⟨.none, none, (.fields (V [])), (W [])⟩
def o753 (P : Params) : Obj := ⟨(.type "tuple"), none, (.seq (V [(.str (S "self") 1123), (.str (S "many") 1124)]) 0), (W [])⟩
def o754 (P : Params) : Obj := ⟨(.type "tuple"), none, (.seq (V []) 0), (W [])⟩
def o755 (P : Params) : Obj := ⟨.none, none, (.func ⟨(S "times"), (S "Table.times"), (defArgs (inClass (ST 66) 5)), (.stmts (defBody (inClass (ST 66) 5))), (defScope (inClass (ST 66) 5)), 0, [], .none, .none, .none, .none, none, .none, .none, 0⟩), (W [])⟩
def o756 (P : Params) : Obj := ⟨(.type "code"), none, (.fields (V [(.str (S "times") 1120), (.str (S "Table.times") 1121), (.str (S "/claim/cut.py") 1122), (.int 347 0), (.int 2 0), (.int 0 0), (.int 0 0), (.int 3 0), (.ref 744), (.bool true), (.int 181 0), (.ref 745), .none, (.ref 746), (.ref 747), (.ref 748), (.int 1125 0), (.int 347 0), (.str (S "/claim/cut.py") 1126)])), (W [])⟩
def o757 (P : Params) : Obj := ⟨(.type "function"), none, (.func ⟨(S "times"), (S "Table.times"), (defArgs (inClass (ST 66) 5)), (.stmts (defBody (inClass (ST 66) 5))), (defScope (inClass (ST 66) 5)), 3, [], .none, .none, .none, (.str (S "nearcall.tables") 971), none, (.ref 749), .none, 0⟩), (W [])⟩
def o758 (P : Params) : Obj := ⟨(.type "tuple"), none, (.seq (V []) 0), (W [])⟩
def o759 (P : Params) : Obj := ⟨.none, none, (.fields (V [])), (W [])⟩
def o760 (P : Params) : Obj := ⟨.none, none, (.func ⟨(S "fixed"), (S "Table.fixed"), (defArgs (inClass (ST 66) 6)), (.stmts (defBody (inClass (ST 66) 6))), (defScope (inClass (ST 66) 6)), 0, [], .none, .none, .none, .none, none, .none, .none, 0⟩), (W [])⟩
def o761 (P : Params) : Obj := ⟨(.type "code"), none, (.fields (V [(.str (S "fixed") 1128), (.str (S "Table.fixed") 1129), (.str (S "/claim/cut.py") 1130), (.int 350 0), (.int 1 0), (.int 0 0), (.int 0 0), (.int 3 0), (.ref 751), (.bool true), (.int 181 0), (.ref 752), .none, .none, .none, (.ref 753), (.int 1131 0), (.int 350 0), (.str (S "/claim/cut.py") 1132)])), (W [])⟩
def o762 (P : Params) : Obj := ⟨(.type "function"), none, (.func ⟨(S "fixed"), (S "Table.fixed"), (defArgs (inClass (ST 66) 6)), (.stmts (defBody (inClass (ST 66) 6))), (defScope (inClass (ST 66) 6)), 3, [], .none, .none, .none, (.str (S "nearcall.tables") 971), none, (.ref 754), .none, 0⟩), (W [])⟩
def o763 (P : Params) : Obj := ⟨(.type "tuple"), none, (.seq (V []) 0), (W [])⟩
def o764 (P : Params) : Obj := ⟨.none, none, (.fields (V [])), (W [])⟩
def o765 (P : Params) : Obj := ⟨(.type "tuple"), none, (.seq (V [(.str (S "self") 1137), (.str (S "thing") 1138)]) 0), (W [])⟩
def o766 (P : Params) : Obj := ⟨(.type "tuple"), none, (.seq (V []) 0), (W [])⟩
def o767 (P : Params) : Obj := ⟨.none, none, (.func ⟨(S "__eq__"), (S "Table.__eq__"), (defArgs (inClass (ST 66) 7)), (.stmts (defBody (inClass (ST 66) 7))), (defScope (inClass (ST 66) 7)), 0, [], .none, .none, .none, .none, none, .none, .none, 0⟩), (W [])⟩
def o768 (P : Params) : Obj := ⟨(.type "code"), none, (.fields (V [(.str (S "__eq__") 1134), (.str (S "Table.__eq__") 1135), (.str (S "/claim/cut.py") 1136), (.int 353 0), (.int 2 0), (.int 0 0), (.int 0 0), (.int 3 0), (.ref 756), (.bool true), (.int 181 0), (.ref 757), .none, (.ref 758), (.ref 759), (.ref 760), (.int 1139 0), (.int 353 0), (.str (S "/claim/cut.py") 1140)])), (W [])⟩
def o769 (P : Params) : Obj := ⟨(.type "function"), none, (.func ⟨(S "__eq__"), (S "Table.__eq__"), (defArgs (inClass (ST 66) 7)), (.stmts (defBody (inClass (ST 66) 7))), (defScope (inClass (ST 66) 7)), 3, [], .none, .none, .none, (.str (S "nearcall.tables") 971), none, (.ref 761), .none, 0⟩), (W [])⟩
def o770 (P : Params) : Obj := ⟨(.type "tuple"), none, (.seq (V []) 0), (W [])⟩
def o771 (P : Params) : Obj := ⟨.none, none, (.fields (V [])), (W [])⟩
def o772 (P : Params) : Obj := ⟨(.type "tuple"), none, (.seq (V [(.str (S "self") 1145)]) 0), (W [])⟩
def o773 (P : Params) : Obj := ⟨(.type "tuple"), none, (.seq (V []) 0), (W [])⟩
def o774 (P : Params) : Obj := ⟨.none, none, (.func ⟨(S "__len__"), (S "Table.__len__"), (defArgs (inClass (ST 66) 8)), (.stmts (defBody (inClass (ST 66) 8))), (defScope (inClass (ST 33) 13)), 0, [], .none, .none, .none, .none, none, .none, .none, 0⟩), (W [])⟩
def o775 (P : Params) : Obj := ⟨(.type "code"), none, (.fields (V [(.str (S "__len__") 1142), (.str (S "Table.__len__") 1143), (.str (S "/claim/cut.py") 1144), (.int 356 0), (.int 1 0), (.int 0 0), (.int 0 0), (.int 3 0), (.ref 763), (.bool true), (.int 181 0), (.ref 764), .none, (.ref 765), (.ref 766), (.ref 767), (.int 1146 0), (.int 356 0), (.str (S "/claim/cut.py") 1147)])), (W [])⟩
def o776 (P : Params) : Obj := ⟨(.type "function"), none, (.func ⟨(S "__len__"), (S "Table.__len__"), (defArgs (inClass (ST 66) 8)), (.stmts (defBody (inClass (ST 66) 8))), (defScope (inClass (ST 33) 13)), 3, [], .none, .none, .none, (.str (S "nearcall.tables") 971), none, (.ref 768), .none, 0⟩), (W [])⟩
def o777 (P : Params) : Obj := ⟨(.type "tuple"), none, (.seq (V []) 0), (W [])⟩
def o778 (P : Params) : Obj := ⟨.none, none, (.fields (V [])), (W [])⟩
def o779 (P : Params) : Obj := ⟨(.type "tuple"), none, (.seq (V [(.str (S "self") 1152)]) 0), (W [])⟩
def o780 (P : Params) : Obj := ⟨(.type "tuple"), none, (.seq (V []) 0), (W [])⟩
def o781 (P : Params) : Obj := ⟨.none, none, (.func ⟨(S "__str__"), (S "Table.__str__"), (defArgs (inClass (ST 66) 9)), (.stmts (defBody (inClass (ST 66) 9))), (defScope (inClass (ST 33) 1)), 0, [], .none, .none, .none, .none, none, .none, .none, 0⟩), (W [])⟩
def o782 (P : Params) : Obj := ⟨(.type "code"), none, (.fields (V [(.str (S "__str__") 1149), (.str (S "Table.__str__") 1150), (.str (S "/claim/cut.py") 1151), (.int 359 0), (.int 1 0), (.int 0 0), (.int 0 0), (.int 3 0), (.ref 770), (.bool true), (.int 181 0), (.ref 771), .none, (.ref 772), (.ref 773), (.ref 774), (.int 1153 0), (.int 359 0), (.str (S "/claim/cut.py") 1154)])), (W [])⟩
def o783 (P : Params) : Obj := ⟨(.type "function"), none, (.func ⟨(S "__str__"), (S "Table.__str__"), (defArgs (inClass (ST 66) 9)), (.stmts (defBody (inClass (ST 66) 9))), (defScope (inClass (ST 33) 1)), 3, [], .none, .none, .none, (.str (S "nearcall.tables") 971), none, (.ref 775), .none, 0⟩), (W [])⟩
def o784 (P : Params) : Obj := ⟨(.type "tuple"), none, (.seq (V []) 0), (W [])⟩
def o785 (P : Params) : Obj := ⟨.none, none, (.fields (V [])), (W [])⟩
def o786 (P : Params) : Obj := ⟨(.type "tuple"), none, (.seq (V [(.str (S "self") 1159)]) 0), (W [])⟩
def o787 (P : Params) : Obj := ⟨(.type "tuple"), none, (.seq (V []) 0), (W [])⟩
def o788 (P : Params) : Obj := ⟨.none, none, (.func ⟨(S "__repr__"), (S "Table.__repr__"), (defArgs (inClass (ST 66) 10)), (.stmts (defBody (inClass (ST 66) 10))), (defScope (inClass (ST 33) 13)), 0, [], .none, .none, .none, .none, none, .none, .none, 0⟩), (W [])⟩
def o789 (P : Params) : Obj := ⟨(.type "code"), none, (.fields (V [(.str (S "__repr__") 1156), (.str (S "Table.__repr__") 1157), (.str (S "/claim/cut.py") 1158), (.int 362 0), (.int 1 0), (.int 0 0), (.int 0 0), (.int 3 0), (.ref 777), (.bool true), (.int 181 0), (.ref 778), .none, (.ref 779), (.ref 780), (.ref 781), (.int 1160 0), (.int 362 0), (.str (S "/claim/cut.py") 1161)])), (W [])⟩
def o790 (P : Params) : Obj := ⟨(.type "function"), none, (.func ⟨(S "__repr__"), (S "Table.__repr__"), (defArgs (inClass (ST 66) 10)), (.stmts (defBody (inClass (ST 66) 10))), (defScope (inClass (ST 33) 13)), 3, [], .none, .none, .none, (.str (S "nearcall.tables") 971), none, (.ref 782), .none, 0⟩), (W [])⟩
def o791 (P : Params) : Obj := ⟨(.type "tuple"), none, (.seq (V [(.str (S "entry_texts") 1163), (.str (S "place") 1164)]) 0), (W [])⟩
def o792 (P : Params) : Obj := ⟨(.type "dict"), none, (.dict (D [E P (S "__module__") 1076 (.str (S "nearcall.tables") 971), E P (S "__firstlineno__") 1080 (.int 327 1079), E P (S "__init__") 1089 (.ref 715), E P (S "hall") 1096 (.ref 722), E P (S "entries") 1103 (.ref 729), E P (S "led") 1111 (.ref 736), E P (S "then") 1119 (.ref 743), E P (S "times") 1127 (.ref 750), E P (S "fixed") 1133 (.ref 755), E P (S "__eq__") 1141 (.ref 762), E P (S "__len__") 1148 (.ref 769), E P (S "__str__") 1155 (.ref 776), E P (S "__repr__") 1162 (.ref 783), E P (S "__static_attributes__") 1165 (.ref 784), E P (S "__dict__") 1167 (.ref 787), E P (S "__weakref__") 1169 (.ref 788), E P (S "__doc__") 1170 .none, E P (S "__hash__") 1171 .none]) 5), (W [])⟩
def o793 (P : Params) : Obj := ⟨(.type "type"), none, (.cls ⟨(S "Table"), [(.type "object")], [(.ref 786), (.type "object")], 785, (S "Table"), true, [], [], false, none, false⟩), (W [none, none, (some (.str (S "Table") 1069)), (some (.str (S "Table") 1077)), (some (.builtin "object.__new__")), (some (.bool true))])⟩
def o794 (P : Params) : Obj := ⟨(.type "getset_descriptor"), none, (.fields (V [(.str (S "__dict__") 1166), (.ref 786), (.builtin "function.__dict__"), (.builtin "function.__dict__#set")])), (W [])⟩
def o795 (P : Params) : Obj := ⟨(.type "getset_descriptor"), none, (.fields (V [(.str (S "__weakref__") 1168), (.ref 786), (.builtin "ExceptionGroup.__weakref__"), .none])), (W [])⟩
def o796 (P : Params) : Obj := ⟨(.type "super"), none, (.fields (V [(.ref 786), (.ref 786), (.ref 786)])), (W [])⟩
def o797 (P : Params) : Obj := ⟨(.type "builtin_function_or_method"), none, (.fields (V [(.builtin "object.__init_subclass__"), (.ref 786)])), (W [])⟩
def o798 (P : Params) : Obj := ⟨(.type "tuple"), none, (.seq (V []) 0), (W [])⟩
def o799 (P : Params) : Obj := ⟨.none, none, (.fields (V [])), (W [])⟩
def o800 (P : Params) : Obj := ⟨.none, none, (.func ⟨(S "of_call"), (S "of_call"), (defArgs (ST 67)), (.stmts (defBody (ST 67))), (defScope (ST 67)), 0, [], .none, .none, .none, .none, none, .none, .none, 0⟩), (W [])⟩
def o801 (P : Params) : Obj := ⟨(.type "code"), none, (.fields (V [(.str (S "of_call") 1174), (.str (S "of_call") 1175), (.str (S "/claim/cut.py") 1176), (.int 364 0), (.int 2 0), (.int 0 0), (.int 0 0), (.int 3 0), (.ref 791), (.bool true), (.int 181 0), (.ref 792), .none, .none, .none, (.ref 793), (.int 1177 0), (.int 364 0), (.str (S "/claim/cut.py") 1178)])), (W [])⟩
def o802 (P : Params) : Obj := ⟨(.type "function"), none, (.func ⟨(S "of_call"), (S "of_call"), (defArgs (ST 67)), (.stmts (defBody (ST 67))), (defScope (ST 67)), 3, [], .none, .none, .none, (.str (S "nearcall.tables") 971), none, (.ref 794), .none, 0⟩), (W [])⟩
def o803 (P : Params) : Obj := ⟨(.type "tuple"), none, (.seq (V []) 0), (W [])⟩
def o804 (P : Params) : Obj := ⟨.none, none, (.fields (V [])), (W [])⟩
def o805 (P : Params) : Obj := ⟨(.type "tuple"), none, (.seq (V [(.str (S "hall") 1183), (.str (S "turn") 1184)]) 0), (W [])⟩
def o806 (P : Params) : Obj := ⟨(.type "tuple"), none, (.seq (V []) 0), (W [])⟩
def o807 (P : Params) : Obj := ⟨.none, none, (.func ⟨(S "of_turn"), (S "of_turn"), (defArgs (ST 68)), (.stmts (defBody (ST 68))), (defScope (ST 68)), 0, [], .none, .none, .none, .none, none, .none, .none, 0⟩), (W [])⟩
def o808 (P : Params) : Obj := ⟨(.type "code"), none, (.fields (V [(.str (S "of_turn") 1180), (.str (S "of_turn") 1181), (.str (S "/claim/cut.py") 1182), (.int 367 0), (.int 2 0), (.int 0 0), (.int 0 0), (.int 3 0), (.ref 796), (.bool true), (.int 181 0), (.ref 797), .none, (.ref 798), (.ref 799), (.ref 800), (.int 1185 0), (.int 367 0), (.str (S "/claim/cut.py") 1186)])), (W [])⟩
def o809 (P : Params) : Obj := ⟨(.type "function"), none, (.func ⟨(S "of_turn"), (S "of_turn"), (defArgs (ST 68)), (.stmts (defBody (ST 68))), (defScope (ST 68)), 3, [], .none, .none, .none, (.str (S "nearcall.tables") 971), none, (.ref 801), .none, 0⟩), (W [])⟩
def o810 (P : Params) : Obj := ⟨(.type "tuple"), none, (.seq (V []) 0), (W [])⟩
def o811 (P : Params) : Obj := ⟨.none, none, (.fields (V [])), (W [])⟩
def o812 (P : Params) : Obj := ⟨(.type "tuple"), none, (.seq (V [(.str (S "hall") 1197), (.str (S "moves") 1198), (.str (S "room") 1199), (.str (S "ahead") 1200), (.str (S "wave") 1201), (.str (S "later") 1202), (.str (S "stood") 1203), (.str (S "name") 1204), (.str (S "entries") 1205), (.str (S "met") 1206)]) 0), (W [])⟩
def o813 (P : Params) : Obj := ⟨(.type "tuple"), none, (.seq (V []) 0), (W [])⟩
def o814 (P : Params) : Obj := ⟨.none, none, (.func ⟨(S "rooms_met"), (S "rooms_met"), (defArgs (ST 72)), (.stmts (defBody (ST 72))), (defScope (ST 72)), 0, [], .none, .none, .none, .none, none, .none, .none, 0⟩), (W [])⟩
def o815 (P : Params) : Obj := ⟨(.type "code"), none, (.fields (V [(.str (S "rooms_met") 1194), (.str (S "rooms_met") 1195), (.str (S "/claim/cut.py") 1196), (.int 372 0), (.int 3 0), (.int 0 0), (.int 0 0), (.int 3 0), (.ref 803), (.bool true), (.int 181 0), (.ref 804), .none, (.ref 805), (.ref 806), (.ref 807), (.int 1207 0), (.int 372 0), (.str (S "/claim/cut.py") 1208)])), (W [])⟩
def o816 (P : Params) : Obj := ⟨(.type "function"), none, (.func ⟨(S "rooms_met"), (S "rooms_met"), (defArgs (ST 72)), (.stmts (defBody (ST 72))), (defScope (ST 72)), 3, [], .none, .none, .none, (.str (S "nearcall.steering") 1188), none, (.ref 808), .none, 0⟩), (W [])⟩
def o817 (P : Params) : Obj := ⟨(.type "tuple"), none, (.seq (V []) 0), (W [])⟩
def o818 (P : Params) : Obj := ⟨.none, none, (.fields (V [])), (W [])⟩
def o819 (P : Params) : Obj := ⟨.none, none, (.func ⟨(S "call_moves"), (S "call_moves"), (defArgs (ST 73)), (.stmts (defBody (ST 73))), (defScope (ST 73)), 0, [], .none, .none, .none, .none, none, .none, .none, 0⟩), (W [])⟩
def o820 (P : Params) : Obj := ⟨(.type "code"), none, (.fields (V [(.str (S "call_moves") 1210), (.str (S "call_moves") 1211), (.str (S "/claim/cut.py") 1212), (.int 385 0), (.int 2 0), (.int 0 0), (.int 0 0), (.int 3 0), (.ref 810), (.bool true), (.int 181 0), (.ref 811), .none, .none, .none, (.ref 812), (.int 1213 0), (.int 385 0), (.str (S "/claim/cut.py") 1214)])), (W [])⟩
def o821 (P : Params) : Obj := ⟨(.type "function"), none, (.func ⟨(S "call_moves"), (S "call_moves"), (defArgs (ST 73)), (.stmts (defBody (ST 73))), (defScope (ST 73)), 3, [], .none, .none, .none, (.str (S "nearcall.steering") 1188), none, (.ref 813), .none, 0⟩), (W [])⟩
def o822 (P : Params) : Obj := ⟨(.type "tuple"), none, (.seq (V []) 0), (W [])⟩
def o823 (P : Params) : Obj := ⟨.none, none, (.fields (V [])), (W [])⟩
def o824 (P : Params) : Obj := ⟨(.type "tuple"), none, (.seq (V [(.str (S "hall") 1219), (.str (S "intos") 1220), (.str (S "found") 1221), (.str (S "wave") 1222), (.str (S "later") 1223), (.str (S "turn") 1224), (.str (S "into") 1225), (.str (S "met") 1226)]) 0), (W [])⟩
def o825 (P : Params) : Obj := ⟨(.type "tuple"), none, (.seq (V []) 0), (W [])⟩
def o826 (P : Params) : Obj := ⟨.none, none, (.func ⟨(S "turns_made"), (S "turns_made"), (defArgs (ST 74)), (.stmts (defBody (ST 74))), (defScope (ST 74)), 0, [], .none, .none, .none, .none, none, .none, .none, 0⟩), (W [])⟩
def o827 (P : Params) : Obj := ⟨(.type "code"), none, (.fields (V [(.str (S "turns_made") 1216), (.str (S "turns_made") 1217), (.str (S "/claim/cut.py") 1218), (.int 387 0), (.int 2 0), (.int 0 0), (.int 0 0), (.int 3 0), (.ref 815), (.bool true), (.int 181 0), (.ref 816), .none, (.ref 817), (.ref 818), (.ref 819), (.int 1227 0), (.int 387 0), (.str (S "/claim/cut.py") 1228)])), (W [])⟩
def o828 (P : Params) : Obj := ⟨(.type "function"), none, (.func ⟨(S "turns_made"), (S "turns_made"), (defArgs (ST 74)), (.stmts (defBody (ST 74))), (defScope (ST 74)), 3, [], .none, .none, .none, (.str (S "nearcall.steering") 1188), none, (.ref 820), .none, 0⟩), (W [])⟩
def o829 (P : Params) : Obj := ⟨(.type "tuple"), none, (.seq (V []) 0), (W [])⟩
def o830 (P : Params) : Obj := ⟨.none, none, (.fields (V [])), (W [])⟩
def o831 (P : Params) : Obj := ⟨.none, none, (.func ⟨(S "needed_turns"), (S "needed_turns"), (defArgs (ST 75)), (.stmts (defBody (ST 75))), (defScope (ST 75)), 0, [], .none, .none, .none, .none, none, .none, .none, 0⟩), (W [])⟩
def o832 (P : Params) : Obj := ⟨(.type "code"), none, (.fields (V [(.str (S "needed_turns") 1230), (.str (S "needed_turns") 1231), (.str (S "/claim/cut.py") 1232), (.int 402 0), (.int 2 0), (.int 0 0), (.int 0 0), (.int 3 0), (.ref 822), (.bool true), (.int 181 0), (.ref 823), .none, .none, .none, (.ref 824), (.int 1233 0), (.int 402 0), (.str (S "/claim/cut.py") 1234)])), (W [])⟩
def o833 (P : Params) : Obj := ⟨(.type "function"), none, (.func ⟨(S "needed_turns"), (S "needed_turns"), (defArgs (ST 75)), (.stmts (defBody (ST 75))), (defScope (ST 75)), 3, [], .none, .none, .none, (.str (S "nearcall.steering") 1188), none, (.ref 825), .none, 0⟩), (W [])⟩
def o834 (P : Params) : Obj := ⟨(.type "tuple"), none, (.seq (V []) 0), (W [])⟩
def o835 (P : Params) : Obj := ⟨.none, none, (.fields (V [])), (W [])⟩
def o836 (P : Params) : Obj := ⟨(.type "tuple"), none, (.seq (V [(.str (S "ahead") 1239), (.str (S "goal") 1240), (.str (S "found") 1241), (.str (S "step") 1242)]) 0), (W [])⟩
def o837 (P : Params) : Obj := ⟨(.type "tuple"), none, (.seq (V []) 0), (W [])⟩
def o838 (P : Params) : Obj := ⟨.none, none, (.func ⟨(S "steps_back"), (S "steps_back"), (defArgs (ST 76)), (.stmts (defBody (ST 76))), (defScope (ST 76)), 0, [], .none, .none, .none, .none, none, .none, .none, 0⟩), (W [])⟩
def o839 (P : Params) : Obj := ⟨(.type "code"), none, (.fields (V [(.str (S "steps_back") 1236), (.str (S "steps_back") 1237), (.str (S "/claim/cut.py") 1238), (.int 410 0), (.int 2 0), (.int 0 0), (.int 0 0), (.int 3 0), (.ref 827), (.bool true), (.int 181 0), (.ref 828), .none, (.ref 829), (.ref 830), (.ref 831), (.int 1243 0), (.int 410 0), (.str (S "/claim/cut.py") 1244)])), (W [])⟩
def o840 (P : Params) : Obj := ⟨(.type "function"), none, (.func ⟨(S "steps_back"), (S "steps_back"), (defArgs (ST 76)), (.stmts (defBody (ST 76))), (defScope (ST 76)), 3, [], .none, .none, .none, (.str (S "nearcall.steering") 1188), none, (.ref 832), .none, 0⟩), (W [])⟩
def o841 (P : Params) : Obj := ⟨(.type "tuple"), none, (.seq (V []) 0), (W [])⟩
def o842 (P : Params) : Obj := ⟨.none, none, (.fields (V [])), (W [])⟩
def o843 (P : Params) : Obj := ⟨.none, none, (.func ⟨(S "steer_turning"), (S "steer_turning"), (defArgs (ST 77)), (.stmts (defBody (ST 77))), (defScope (ST 77)), 0, [], .none, .none, .none, .none, none, .none, .none, 0⟩), (W [])⟩
def o844 (P : Params) : Obj := ⟨(.type "code"), none, (.fields (V [(.str (S "steer_turning") 1246), (.str (S "steer_turning") 1247), (.str (S "/claim/cut.py") 1248), (.int 417 0), (.int 5 0), (.int 0 0), (.int 0 0), (.int 3 0), (.ref 834), (.bool true), (.int 181 0), (.ref 835), .none, .none, .none, (.ref 836), (.int 1249 0), (.int 417 0), (.str (S "/claim/cut.py") 1250)])), (W [])⟩
def o845 (P : Params) : Obj := ⟨(.type "function"), none, (.func ⟨(S "steer_turning"), (S "steer_turning"), (defArgs (ST 77)), (.stmts (defBody (ST 77))), (defScope (ST 77)), 3, [], .none, .none, .none, (.str (S "nearcall.steering") 1188), none, (.ref 837), .none, 0⟩), (W [])⟩
def o846 (P : Params) : Obj := ⟨(.type "tuple"), none, (.seq (V []) 0), (W [])⟩
def o847 (P : Params) : Obj := ⟨.none, none, (.fields (V [])), (W [])⟩
def o848 (P : Params) : Obj := ⟨(.type "tuple"), none, (.seq (V [(.str (S "_law_script") 1257), (.str (S "_law_seed") 1258), (.str (S "_law_cell") 1259)]) 0), (W [])⟩
def o849 (P : Params) : Obj := ⟨(.type "tuple"), none, (.seq (V []) 0), (W [])⟩
def o850 (P : Params) : Obj := ⟨.none, none, (.func ⟨(S "_law_start"), (S "_law_start"), (defArgs (ST 79)), (.stmts (defBody (ST 79))), (defScope (ST 79)), 0, [], .none, .none, .none, .none, none, .none, .none, 0⟩), (W [])⟩
def o851 (P : Params) : Obj := ⟨(.type "code"), none, (.fields (V [(.str (S "_law_start") 1254), (.str (S "_law_start") 1255), (.str (S "/claim/cut.py") 1256), (.int 427 0), (.int 1 0), (.int 0 0), (.int 0 0), (.int 3 0), (.ref 839), (.bool true), (.int 181 0), (.ref 840), .none, (.ref 841), (.ref 842), (.ref 843), (.int 1260 0), (.int 427 0), (.str (S "/claim/cut.py") 1261)])), (W [])⟩
def o852 (P : Params) : Obj := ⟨(.type "function"), none, (.func ⟨(S "_law_start"), (S "_law_start"), (defArgs (ST 79)), (.stmts (defBody (ST 79))), (defScope (ST 79)), 3, [], .none, .none, .none, (.str (S "law_nearcall_k18_turns_refused") 1252), none, (.ref 844), .none, 0⟩), (W [])⟩
def o853 (P : Params) : Obj := ⟨(.type "tuple"), none, (.seq (V []) 0), (W [])⟩
def o854 (P : Params) : Obj := ⟨.none, none, (.fields (V [])), (W [])⟩
def o855 (P : Params) : Obj := ⟨(.type "tuple"), none, (.seq (V [(.str (S "_law_d") 1266), (.str (S "_law_many") 1267), (.str (S "_law_cell") 1268), (.str (S "_law_digit") 1269), (.str (S "_law_mix") 1270)]) 0), (W [])⟩
def o856 (P : Params) : Obj := ⟨(.type "tuple"), none, (.seq (V []) 0), (W [])⟩
def o857 (P : Params) : Obj := ⟨.none, none, (.func ⟨(S "_law_draw"), (S "_law_draw"), (defArgs (ST 80)), (.stmts (defBody (ST 80))), (defScope (ST 80)), 0, [], .none, .none, .none, .none, none, .none, .none, 0⟩), (W [])⟩
def o858 (P : Params) : Obj := ⟨(.type "code"), none, (.fields (V [(.str (S "_law_draw") 1263), (.str (S "_law_draw") 1264), (.str (S "/claim/cut.py") 1265), (.int 432 0), (.int 2 0), (.int 0 0), (.int 0 0), (.int 3 0), (.ref 846), (.bool true), (.int 181 0), (.ref 847), .none, (.ref 848), (.ref 849), (.ref 850), (.int 1271 0), (.int 432 0), (.str (S "/claim/cut.py") 1272)])), (W [])⟩
def o859 (P : Params) : Obj := ⟨(.type "function"), none, (.func ⟨(S "_law_draw"), (S "_law_draw"), (defArgs (ST 80)), (.stmts (defBody (ST 80))), (defScope (ST 80)), 3, [], .none, .none, .none, (.str (S "law_nearcall_k18_turns_refused") 1252), none, (.ref 851), .none, 0⟩), (W [])⟩
def o860 (P : Params) : Obj := ⟨(.type "tuple"), none, (.seq (V []) 0), (W [])⟩
def o861 (P : Params) : Obj := ⟨.none, none, (.fields (V [])), (W [])⟩
def o862 (P : Params) : Obj := ⟨(.type "tuple"), none, (.seq (V [(.str (S "_law_d") 1277), (.str (S "_law_some") 1278)]) 0), (W [])⟩
def o863 (P : Params) : Obj := ⟨(.type "tuple"), none, (.seq (V []) 0), (W [])⟩
def o864 (P : Params) : Obj := ⟨.none, none, (.func ⟨(S "_law_of"), (S "_law_of"), (defArgs (ST 81)), (.stmts (defBody (ST 81))), (defScope (ST 81)), 0, [], .none, .none, .none, .none, none, .none, .none, 0⟩), (W [])⟩
def o865 (P : Params) : Obj := ⟨(.type "code"), none, (.fields (V [(.str (S "_law_of") 1274), (.str (S "_law_of") 1275), (.str (S "/claim/cut.py") 1276), (.int 447 0), (.int 2 0), (.int 0 0), (.int 0 0), (.int 3 0), (.ref 853), (.bool true), (.int 181 0), (.ref 854), .none, (.ref 855), (.ref 856), (.ref 857), (.int 1279 0), (.int 447 0), (.str (S "/claim/cut.py") 1280)])), (W [])⟩
def o866 (P : Params) : Obj := ⟨(.type "function"), none, (.func ⟨(S "_law_of"), (S "_law_of"), (defArgs (ST 81)), (.stmts (defBody (ST 81))), (defScope (ST 81)), 3, [], .none, .none, .none, (.str (S "law_nearcall_k18_turns_refused") 1252), none, (.ref 858), .none, 0⟩), (W [])⟩
def o867 (P : Params) : Obj := ⟨(.type "tuple"), none, (.seq (V []) 0), (W [])⟩
def o868 (P : Params) : Obj := ⟨.none, none, (.fields (V [])), (W [])⟩
def o869 (P : Params) : Obj := ⟨.none, none, (.func ⟨(S "_law_mixed"), (S "_law_mixed"), (defArgs (ST 82)), (.stmts (defBody (ST 82))), (defScope (ST 82)), 0, [], .none, .none, .none, .none, none, .none, .none, 0⟩), (W [])⟩
def o870 (P : Params) : Obj := ⟨(.type "code"), none, (.fields (V [(.str (S "_law_mixed") 1282), (.str (S "_law_mixed") 1283), (.str (S "/claim/cut.py") 1284), (.int 449 0), (.int 2 0), (.int 0 0), (.int 0 0), (.int 3 0), (.ref 860), (.bool true), (.int 181 0), (.ref 861), .none, .none, .none, (.ref 862), (.int 1285 0), (.int 449 0), (.str (S "/claim/cut.py") 1286)])), (W [])⟩
def o871 (P : Params) : Obj := ⟨(.type "function"), none, (.func ⟨(S "_law_mixed"), (S "_law_mixed"), (defArgs (ST 82)), (.stmts (defBody (ST 82))), (defScope (ST 82)), 3, [], .none, .none, .none, (.str (S "law_nearcall_k18_turns_refused") 1252), none, (.ref 863), .none, 0⟩), (W [])⟩
def o872 (P : Params) : Obj := ⟨(.type "tuple"), none, (.seq (V []) 0), (W [])⟩
def o873 (P : Params) : Obj := ⟨.none, none, (.fields (V [])), (W [])⟩
def o874 (P : Params) : Obj := ⟨(.type "tuple"), none, (.seq (V []) 0), (W [])⟩
def o875 (P : Params) : Obj := ⟨(.type "tuple"), none, (.seq (V []) 0), (W [])⟩
def o876 (P : Params) : Obj := ⟨.none, none, (.func ⟨(S "_law_letters"), (S "_law_letters"), (defArgs (ST 83)), (.stmts (defBody (ST 83))), (defScope (ST 83)), 0, [], .none, .none, .none, .none, none, .none, .none, 0⟩), (W [])⟩
def o877 (P : Params) : Obj := ⟨(.type "code"), none, (.fields (V [(.str (S "_law_letters") 1288), (.str (S "_law_letters") 1289), (.str (S "/claim/cut.py") 1290), (.int 452 0), (.int 0 0), (.int 0 0), (.int 0 0), (.int 3 0), (.ref 865), (.bool true), (.int 181 0), (.ref 866), .none, (.ref 867), (.ref 868), (.ref 869), (.int 1291 0), (.int 452 0), (.str (S "/claim/cut.py") 1292)])), (W [])⟩
def o878 (P : Params) : Obj := ⟨(.type "function"), none, (.func ⟨(S "_law_letters"), (S "_law_letters"), (defArgs (ST 83)), (.stmts (defBody (ST 83))), (defScope (ST 83)), 3, [], .none, .none, .none, (.str (S "law_nearcall_k18_turns_refused") 1252), none, (.ref 870), .none, 0⟩), (W [])⟩
def o879 (P : Params) : Obj := ⟨(.type "tuple"), none, (.seq (V []) 0), (W [])⟩
def o880 (P : Params) : Obj := ⟨.none, none, (.fields (V [])), (W [])⟩
def o881 (P : Params) : Obj := ⟨(.type "tuple"), none, (.seq (V [(.str (S "_law_d") 1297), (.str (S "_law_most") 1298), (.str (S "_law_found") 1299), (.str (S "_law_skip") 1300), (.str (S "_law_sign") 1301)]) 0), (W [])⟩
def o882 (P : Params) : Obj := ⟨(.type "tuple"), none, (.seq (V []) 0), (W [])⟩
def o883 (P : Params) : Obj := ⟨.none, none, (.func ⟨(S "_law_shuts"), (S "_law_shuts"), (defArgs (ST 84)), (.stmts (defBody (ST 84))), (defScope (ST 84)), 0, [], .none, .none, .none, .none, none, .none, .none, 0⟩), (W [])⟩
def o884 (P : Params) : Obj := ⟨(.type "code"), none, (.fields (V [(.str (S "_law_shuts") 1294), (.str (S "_law_shuts") 1295), (.str (S "/claim/cut.py") 1296), (.int 454 0), (.int 2 0), (.int 0 0), (.int 0 0), (.int 3 0), (.ref 872), (.bool true), (.int 181 0), (.ref 873), .none, (.ref 874), (.ref 875), (.ref 876), (.int 1302 0), (.int 454 0), (.str (S "/claim/cut.py") 1303)])), (W [])⟩
def o885 (P : Params) : Obj := ⟨(.type "function"), none, (.func ⟨(S "_law_shuts"), (S "_law_shuts"), (defArgs (ST 84)), (.stmts (defBody (ST 84))), (defScope (ST 84)), 3, [], .none, .none, .none, (.str (S "law_nearcall_k18_turns_refused") 1252), none, (.ref 877), .none, 0⟩), (W [])⟩
def objs_6 (P : Params) : List Obj :=
  [boot_o_0 P, boot_o_1 P, o248 P, o707 P, boot_o_4 P, boot_o_5 P, boot_o_6 P, boot_o_7 P, boot_o_8 P, boot_o_9 P, boot_o_10 P, o0 P, o708 P, o2 P, o3 P, o6 P, o7 P, o8 P, o9 P, o10 P, o11 P, o12 P, o13 P, o14 P, o15 P, o16 P, o17 P, o18 P, o19 P, o20 P, o21 P, o22 P, o23 P, o24 P, o25 P, o26 P, o27 P, o28 P, o251 P, o30 P] ++ (
  [o31 P, o32 P, o33 P, o34 P, o35 P, o36 P, o37 P, o38 P, o39 P, o40 P, o41 P, o42 P, o43 P, o44 P, o45 P, o46 P, o47 P, o48 P, o49 P, o50 P, o51 P, o52 P, o53 P, o54 P, o55 P, o56 P, o57 P, o58 P, o59 P, o60 P, o61 P, o62 P, o63 P, o64 P, o65 P, o66 P, o67 P, o68 P, o69 P, o70 P] ++ (
  [o71 P, o72 P, o73 P, o74 P, o75 P, o76 P, o77 P, o78 P, o79 P, o80 P, o81 P, o82 P, o83 P, o84 P, o85 P, o86 P, o87 P, o88 P, o89 P, o93 P, o94 P, o95 P, o96 P, o97 P, o98 P, o99 P, o100 P, o101 P, o102 P, o103 P, o104 P, o105 P, o106 P, o107 P, o108 P, o109 P, o110 P, o111 P, o112 P, o113 P] ++ (
  [o114 P, o115 P, o116 P, o117 P, o118 P, o119 P, o120 P, o121 P, o122 P, o123 P, o124 P, o125 P, o126 P, o127 P, o128 P, o129 P, o130 P, o131 P, o132 P, o133 P, o134 P, o135 P, o136 P, o137 P, o138 P, o139 P, o140 P, o141 P, o142 P, o143 P, o144 P, o145 P, o146 P, o147 P, o148 P, o149 P, o150 P, o151 P, o152 P, o153 P] ++ (
  [o154 P, o155 P, o156 P, o157 P, o158 P, o159 P, o160 P, o161 P, o162 P, o163 P, o164 P, o165 P, o166 P, o167 P, o168 P, o172 P, o173 P, o174 P, o175 P, o176 P, o177 P, o178 P, o179 P, o180 P, o181 P, o182 P, o183 P, o184 P, o185 P, o186 P, o187 P, o188 P, o189 P, o190 P, o191 P, o192 P, o193 P, o194 P, o195 P, o196 P] ++ (
  [o197 P, o198 P, o199 P, o200 P, o201 P, o202 P, o203 P, o204 P, o205 P, o206 P, o207 P, o208 P, o209 P, o210 P, o211 P, o212 P, o213 P, o214 P, o215 P, o216 P, o217 P, o218 P, o219 P, o220 P, o221 P, o222 P, o223 P, o224 P, o225 P, o226 P, o227 P, o228 P, o229 P, o230 P, o231 P, o232 P, o233 P, o234 P, o235 P, o236 P] ++ (
  [o237 P, o238 P, o239 P, o240 P, o241 P, o242 P, o243 P, o244 P, o245 P, o246 P, o247 P, o252 P, o253 P, o254 P, o255 P, o256 P, o257 P, o258 P, o259 P, o260 P, o261 P, o262 P, o263 P, o264 P, o265 P, o266 P, o267 P, o268 P, o269 P, o270 P, o271 P, o272 P, o273 P, o274 P, o275 P, o276 P, o277 P, o278 P, o279 P, o280 P] ++ (
  [o281 P, o282 P, o283 P, o284 P, o285 P, o286 P, o287 P, o288 P, o289 P, o290 P, o291 P, o292 P, o293 P, o294 P, o295 P, o296 P, o297 P, o298 P, o299 P, o300 P, o301 P, o302 P, o303 P, o304 P, o305 P, o306 P, o307 P, o308 P, o309 P, o310 P, o311 P, o312 P, o313 P, o314 P, o315 P, o316 P, o317 P, o318 P, o319 P, o320 P] ++ (
  [o321 P, o322 P, o323 P, o324 P, o325 P, o326 P, o327 P, o328 P, o329 P, o330 P, o331 P, o332 P, o333 P, o334 P, o335 P, o336 P, o337 P, o338 P, o339 P, o340 P, o341 P, o342 P, o343 P, o344 P, o345 P, o346 P, o347 P, o348 P, o349 P, o350 P, o351 P, o352 P, o353 P, o354 P, o355 P, o356 P, o357 P, o358 P, o359 P, o360 P] ++ (
  [o361 P, o362 P, o363 P, o364 P, o365 P, o366 P, o367 P, o368 P, o369 P, o370 P, o371 P, o372 P, o373 P, o374 P, o377 P, o378 P, o379 P, o380 P, o381 P, o382 P, o383 P, o384 P, o385 P, o386 P, o387 P, o388 P, o389 P, o390 P, o391 P, o392 P, o393 P, o394 P, o395 P, o396 P, o397 P, o398 P, o399 P, o400 P, o401 P, o402 P] ++ (
  [o403 P, o404 P, o405 P, o406 P, o407 P, o408 P, o409 P, o410 P, o411 P, o412 P, o413 P, o414 P, o415 P, o416 P, o417 P, o418 P, o419 P, o420 P, o421 P, o422 P, o423 P, o424 P, o425 P, o426 P, o427 P, o428 P, o429 P, o430 P, o431 P, o432 P, o433 P, o434 P, o435 P, o436 P, o437 P, o438 P, o439 P, o440 P, o441 P, o442 P] ++ (
  [o443 P, o444 P, o445 P, o446 P, o447 P, o448 P, o449 P, o450 P, o451 P, o452 P, o453 P, o454 P, o455 P, o456 P, o457 P, o458 P, o459 P, o460 P, o461 P, o462 P, o463 P, o464 P, o465 P, o466 P, o467 P, o468 P, o469 P, o470 P, o471 P, o472 P, o473 P, o474 P, o475 P, o476 P, o477 P, o478 P, o479 P, o480 P, o481 P, o482 P] ++ (
  [o483 P, o484 P, o485 P, o486 P, o487 P, o488 P, o489 P, o490 P, o491 P, o492 P, o493 P, o494 P, o495 P, o496 P, o497 P, o498 P, o499 P, o500 P, o501 P, o502 P, o503 P, o504 P, o505 P, o506 P, o507 P, o508 P, o509 P, o510 P, o511 P, o512 P, o513 P, o514 P, o515 P, o516 P, o517 P, o518 P, o519 P, o520 P, o521 P, o522 P] ++ (
  [o523 P, o524 P, o525 P, o526 P, o527 P, o528 P, o529 P, o530 P, o531 P, o532 P, o533 P, o534 P, o535 P, o536 P, o537 P, o538 P, o539 P, o540 P, o541 P, o542 P, o543 P, o544 P, o545 P, o546 P, o547 P, o548 P, o549 P, o550 P, o551 P, o552 P, o553 P, o554 P, o555 P, o558 P, o559 P, o560 P, o561 P, o562 P, o563 P, o564 P] ++ (
  [o565 P, o566 P, o567 P, o568 P, o569 P, o570 P, o571 P, o572 P, o573 P, o574 P, o575 P, o576 P, o577 P, o578 P, o579 P, o580 P, o581 P, o582 P, o583 P, o584 P, o585 P, o586 P, o587 P, o588 P, o589 P, o590 P, o591 P, o592 P, o593 P, o594 P, o595 P, o596 P, o597 P, o598 P, o599 P, o600 P, o601 P, o602 P, o603 P, o604 P] ++ (
  [o605 P, o606 P, o607 P, o608 P, o609 P, o610 P, o611 P, o612 P, o613 P, o614 P, o615 P, o616 P, o617 P, o618 P, o619 P, o620 P, o621 P, o622 P, o623 P, o624 P, o625 P, o626 P, o627 P, o628 P, o629 P, o630 P, o631 P, o632 P, o633 P, o634 P, o635 P, o636 P, o637 P, o638 P, o639 P, o640 P, o641 P, o642 P, o643 P, o644 P] ++ (
  [o645 P, o646 P, o647 P, o648 P, o649 P, o650 P, o651 P, o652 P, o653 P, o654 P, o655 P, o656 P, o657 P, o658 P, o659 P, o660 P, o661 P, o662 P, o663 P, o664 P, o665 P, o666 P, o667 P, o668 P, o669 P, o670 P, o671 P, o672 P, o673 P, o674 P, o675 P, o676 P, o677 P, o678 P, o679 P, o680 P, o681 P, o682 P, o683 P, o684 P] ++ (
  [o685 P, o686 P, o687 P, o688 P, o689 P, o690 P, o691 P, o692 P, o693 P, o694 P, o695 P, o696 P, o697 P, o698 P, o699 P, o700 P, o701 P, o702 P, o703 P, o704 P, o705 P, o706 P, o709 P, o710 P, o711 P, o712 P, o713 P, o714 P, o715 P, o716 P, o717 P, o718 P, o719 P, o720 P, o721 P, o722 P, o723 P, o724 P, o725 P, o726 P] ++ (
  [o727 P, o728 P, o729 P, o730 P, o731 P, o732 P, o733 P, o734 P, o735 P, o736 P, o737 P, o738 P, o739 P, o740 P, o741 P, o742 P, o743 P, o744 P, o745 P, o746 P, o747 P, o748 P, o749 P, o750 P, o751 P, o752 P, o753 P, o754 P, o755 P, o756 P, o757 P, o758 P, o759 P, o760 P, o761 P, o762 P, o763 P, o764 P, o765 P, o766 P] ++ (
  [o767 P, o768 P, o769 P, o770 P, o771 P, o772 P, o773 P, o774 P, o775 P, o776 P, o777 P, o778 P, o779 P, o780 P, o781 P, o782 P, o783 P, o784 P, o785 P, o786 P, o787 P, o788 P, o789 P, o790 P, o791 P, o792 P, o793 P, o794 P, o795 P, o796 P, o797 P, o798 P, o799 P, o800 P, o801 P, o802 P, o803 P, o804 P, o805 P, o806 P] ++ (
  [o807 P, o808 P, o809 P, o810 P, o811 P, o812 P, o813 P, o814 P, o815 P, o816 P, o817 P, o818 P, o819 P, o820 P, o821 P, o822 P, o823 P, o824 P, o825 P, o826 P, o827 P, o828 P, o829 P, o830 P, o831 P, o832 P, o833 P, o834 P, o835 P, o836 P, o837 P, o838 P, o839 P, o840 P, o841 P, o842 P, o843 P, o844 P, o845 P, o846 P] ++ (
  [o847 P, o848 P, o849 P, o850 P, o851 P, o852 P, o853 P, o854 P, o855 P, o856 P, o857 P, o858 P, o859 P, o860 P, o861 P, o862 P, o863 P, o864 P, o865 P, o866 P, o867 P, o868 P, o869 P, o870 P, o871 P, o872 P, o873 P, o874 P, o875 P, o876 P, o877 P, o878 P, o879 P, o880 P, o881 P, o882 P, o883 P, o884 P, o885 P])))))))))))))))))))))
def o886 (P : Params) : Obj := ⟨(.type "dict"), none, (.dict (D [E P (S "__name__") 165 (.str (S "law_nearcall_k18_turns_refused") 1252), E P (S "__doc__") 166 .none, E P (S "__package__") 167 .none, E P (S "__loader__") 168 (.builtin "__main__.__loader__#opaque"), E P (S "__spec__") 169 .none, E P (S "__annotations__") 170 (.ref 6), E P (S "__builtins__") 171 (.ref 4), E P (S "__file__") 173 (.str (S "/claim/cut.py") 172), E P (S "__cached__") 174 .none, E P (S "_wall") 193 (.ref 21), E P (S "HallError") 222 (.ref 38), E P (S "BadWalls") 245 (.ref 58), E P (S "BadBar") 270 (.ref 77), E P (S "BadSide") 293 (.ref 96), E P (S "Fixed") 318 (.ref 115), E P (S "Alike") 345 (.ref 134), E P (S "BadRoom") 368 (.ref 153), E P (S "BadPart") 391 (.ref 172), E P (S "Empty") 416 (.ref 191), E P (S "BadTurn") 439 (.ref 210), E P (S "BadTable") 464 (.ref 229), E P (S "OtherHall") 487 (.ref 248), E P (S "TooMany") 512 (.ref 267), E P (S "Missing") 539 (.ref 286), E P (S "NothingLeft") 567 (.ref 306), E P (S "WIDEST") 571 (.int 12 570), E P (S "other") 578 (.ref 316), E P (S "sides_of") 585 (.ref 323), E P (S "by_walls") 591 (.ref 328), E P (S "is_walls") 597 (.ref 333), E P (S "is_bar") 606 (.ref 340), E P (S "check_walls") 613 (.ref 347), E P (S "check_bars") 623 (.ref 354), E P (S "check_side") 631 (.ref 361), E P (S "check_room") 639 (.ref 368), E P (S "straight_from") 645 (.ref 373), E P (S "reached") 658 (.ref 380), E P (S "all_forced") 664 (.ref 385), E P (S "check_fixed") 672 (.ref 392), E P (S "check_alike") 681 (.ref 399), E P (S "Hall") 828 (.ref 517), E P (S "is_part") 841 (.ref 528), E P (S "check_part") 849 (.ref 535), E P (S "all_forced_by") 855 (.ref 540), E P (S "torn_walls") 861 (.ref 545), E P (S "shut") 870 (.ref 552), E P (S "goes_over") 883 (.ref 559), E P (S "sides_over") 889 (.ref 564), E P (S "keeps_forcing") 899 (.ref 571), E P (S "is_turn") 908 (.ref 578), E P (S "checked_turn") 916 (.ref 585), E P (S "turned") 926 (.ref 592), E P (S "over") 936 (.ref 599), E P (S "turn_behind") 945 (.ref 606), E P (S "back_turn") 951 (.ref 611), E P (S "round_of") 962 (.ref 618), E P (S "shut_calls") 970 (.ref 623), E P (S "is_fixed") 979 (.ref 630), E P (S "stand_on") 987 (.ref 637), E P (S "is_entry") 996 (.ref 644), E P (S "side_behind") 1005 (.ref 651), E P (S "room_behind") 1011 (.ref 656), E P (S "entry_ahead") 1020 (.ref 663), E P (S "entries_then") 1026 (.ref 668), E P (S "may_meet") 1035 (.ref 675), E P (S "stood_ahead") 1043 (.ref 682), E P (S "leads_to_rooms") 1049 (.ref 687), E P (S "check_entries") 1060 (.ref 694), E P (S "check_same_hall") 1068 (.ref 701), E P (S "Table") 1173 (.ref 786), E P (S "of_call") 1179 (.ref 795), E P (S "of_turn") 1187 (.ref 802), E P (S "MOST_CALLS") 1191 (.int 12 1190), E P (S "MOST_TURNS") 1193 (.int 400 1192), E P (S "rooms_met") 1209 (.ref 809), E P (S "call_moves") 1215 (.ref 814), E P (S "turns_made") 1229 (.ref 821), E P (S "needed_turns") 1235 (.ref 826), E P (S "steps_back") 1245 (.ref 833), E P (S "steer_turning") 1251 (.ref 838), E P (S "_law_start") 1262 (.ref 845), E P (S "_law_draw") 1273 (.ref 852), E P (S "_law_of") 1281 (.ref 859), E P (S "_law_mixed") 1287 (.ref 864), E P (S "_law_letters") 1293 (.ref 871), E P (S "_law_shuts") 1304 (.ref 878), E P (S "_law_other") 1311 (.ref 885), E P (S "_law_within") 1317 (.ref 890), E P (S "_law_pairs") 1323 (.ref 895), E P (S "_law_all") 1334 (.ref 902), E P (S "_law_rooms") 1340 (.ref 907), E P (S "_law_fine") 1346 (.ref 912), E P (S "_law_hall") 1359 (.ref 919), E P (S "_law_image") 1365 (.ref 924), E P (S "_law_by_shuts") 1371 (.ref 929), E P (S "_law_some_turn") 1377 (.ref 934), E P (S "_law_word") 1386 (.ref 941), E P (S "_law_refused") 1394 (.ref 948), E P (S "_law_is_turn") 1400 (.ref 953), E P (S "law") 1406 (.ref 958)]) 100), (W [])⟩
def o887 (P : Params) : Obj := ⟨.none, none, (.fields (V [(.int 1 0), (.int 0 0), (.ref 20), (.int 5 0), (.int 0 0), (.ref 27), (.int 10 0), (.int 0 0), (.ref 47), (.int 14 0), (.int 0 0), (.ref 66), (.int 19 0), (.int 0 0), (.ref 85), (.int 23 0), (.int 0 0), (.ref 104), (.int 28 0), (.int 0 0), (.ref 123), (.int 34 0), (.int 0 0), (.ref 142), (.int 38 0), (.int 0 0), (.ref 161), (.int 42 0), (.int 0 0), (.ref 180), (.int 47 0), (.int 0 0), (.ref 199), (.int 51 0), (.int 0 0), (.ref 218), (.int 56 0), (.int 0 0), (.ref 237), (.int 60 0), (.int 0 0), (.ref 256), (.int 65 0), (.int 0 0), (.ref 275), (.int 70 0), (.int 0 0), (.ref 295), (.int 77 0), (.int 0 0), (.ref 315), (.int 79 0), (.int 0 0), (.ref 322), (.int 81 0), (.int 0 0), (.ref 327), (.int 83 0), (.int 0 0), (.ref 332), (.int 86 0), (.int 0 0), (.ref 339), (.int 91 0), (.int 0 0), (.ref 346), (.int 94 0), (.int 0 0), (.ref 353), (.int 98 0), (.int 0 0), (.ref 360), (.int 101 0), (.int 0 0), (.ref 367), (.int 104 0), (.int 0 0), (.ref 372), (.int 110 0), (.int 0 0), (.ref 379), (.int 122 0), (.int 0 0), (.ref 384), (.int 125 0), (.int 0 0), (.ref 391), (.int 129 0), (.int 0 0), (.ref 398), (.int 134 0), (.int 0 0), (.ref 405), (.int 200 0), (.int 0 0), (.ref 527), (.int 208 0), (.int 0 0), (.ref 534), (.int 211 0), (.int 0 0), (.ref 539), (.int 213 0), (.int 0 0), (.ref 544), (.int 216 0), (.int 0 0), (.ref 551), (.int 223 0), (.int 0 0), (.ref 558), (.int 229 0), (.int 0 0), (.ref 563), (.int 231 0), (.int 0 0), (.ref 570), (.int 237 0), (.int 0 0), (.ref 577), (.int 242 0), (.int 0 0), (.ref 584), (.int 246 0), (.int 0 0), (.ref 591), (.int 250 0), (.int 0 0), (.ref 598), (.int 254 0), (.int 0 0), (.ref 605), (.int 257 0), (.int 0 0), (.ref 610), (.int 261 0), (.int 0 0), (.ref 617), (.int 270 0), (.int 0 0), (.ref 622), (.int 275 0), (.int 0 0), (.ref 629), (.int 277 0), (.int 0 0), (.ref 636), (.int 279 0), (.int 0 0), (.ref 643), (.int 281 0), (.int 0 0), (.ref 650), (.int 285 0), (.int 0 0), (.ref 655), (.int 287 0), (.int 0 0), (.ref 662), (.int 291 0), (.int 0 0), (.ref 667), (.int 297 0), (.int 0 0), (.ref 674), (.int 303 0), (.int 0 0), (.ref 681), (.int 307 0), (.int 0 0), (.ref 686), (.int 315 0), (.int 0 0), (.ref 693), (.int 324 0), (.int 0 0), (.ref 700), (.int 327 0), (.int 0 0), (.ref 707), (.int 364 0), (.int 0 0), (.ref 794), (.int 367 0), (.int 0 0), (.ref 801), (.int 372 0), (.int 0 0), (.ref 808), (.int 385 0), (.int 0 0), (.ref 813), (.int 387 0), (.int 0 0), (.ref 820), (.int 402 0), (.int 0 0), (.ref 825), (.int 410 0), (.int 0 0), (.ref 832), (.int 417 0), (.int 0 0), (.ref 837), (.int 427 0), (.int 0 0), (.ref 844), (.int 432 0), (.int 0 0), (.ref 851), (.int 447 0), (.int 0 0), (.ref 858), (.int 449 0), (.int 0 0), (.ref 863), (.int 452 0), (.int 0 0), (.ref 870), (.int 454 0), (.int 0 0), (.ref 877), (.int 461 0), (.int 0 0), (.ref 884), (.int 463 0), (.int 0 0), (.ref 889), (.int 465 0), (.int 0 0), (.ref 894), (.int 472 0), (.int 0 0), (.ref 901), (.int 480 0), (.int 0 0), (.ref 906), (.int 482 0), (.int 0 0), (.ref 911), (.int 492 0), (.int 0 0), (.ref 918), (.int 500 0), (.int 0 0), (.ref 923), (.int 506 0), (.int 0 0), (.ref 928), (.int 511 0), (.int 0 0), (.ref 933), (.int 513 0), (.int 0 0), (.ref 940), (.int 519 0), (.int 0 0), (.ref 947), (.int 521 0), (.int 0 0), (.ref 952), (.int 525 0), (.int 0 0), (.ref 957)])), (W [])⟩
def o888 (P : Params) : Obj := ⟨(.type "tuple"), none, (.seq (V []) 0), (W [])⟩
def o889 (P : Params) : Obj := ⟨.none, none, (.fields (V [])), (W [])⟩
def o890 (P : Params) : Obj := ⟨(.type "tuple"), none, (.seq (V [(.str (S "_law_side") 1308)]) 0), (W [])⟩
def o891 (P : Params) : Obj := ⟨(.type "tuple"), none, (.seq (V []) 0), (W [])⟩
def o892 (P : Params) : Obj := ⟨.none, none, (.func ⟨(S "_law_other"), (S "_law_other"), (defArgs (ST 85)), (.stmts (defBody (ST 85))), (defScope (ST 85)), 0, [], .none, .none, .none, .none, none, .none, .none, 0⟩), (W [])⟩
def o893 (P : Params) : Obj := ⟨(.type "code"), none, (.fields (V [(.str (S "_law_other") 1305), (.str (S "_law_other") 1306), (.str (S "/claim/cut.py") 1307), (.int 461 0), (.int 1 0), (.int 0 0), (.int 0 0), (.int 3 0), (.ref 879), (.bool true), (.int 181 0), (.ref 880), .none, (.ref 881), (.ref 882), (.ref 883), (.int 1309 0), (.int 461 0), (.str (S "/claim/cut.py") 1310)])), (W [])⟩
def o894 (P : Params) : Obj := ⟨(.type "function"), none, (.func ⟨(S "_law_other"), (S "_law_other"), (defArgs (ST 85)), (.stmts (defBody (ST 85))), (defScope (ST 85)), 3, [], .none, .none, .none, (.str (S "law_nearcall_k18_turns_refused") 1252), none, (.ref 884), .none, 0⟩), (W [])⟩
def o895 (P : Params) : Obj := ⟨(.type "tuple"), none, (.seq (V []) 0), (W [])⟩
def o896 (P : Params) : Obj := ⟨.none, none, (.fields (V [])), (W [])⟩
def o897 (P : Params) : Obj := ⟨.none, none, (.func ⟨(S "_law_within"), (S "_law_within"), (defArgs (ST 86)), (.stmts (defBody (ST 86))), (defScope (ST 86)), 0, [], .none, .none, .none, .none, none, .none, .none, 0⟩), (W [])⟩
def o898 (P : Params) : Obj := ⟨(.type "code"), none, (.fields (V [(.str (S "_law_within") 1312), (.str (S "_law_within") 1313), (.str (S "/claim/cut.py") 1314), (.int 463 0), (.int 2 0), (.int 0 0), (.int 0 0), (.int 3 0), (.ref 886), (.bool true), (.int 181 0), (.ref 887), .none, .none, .none, (.ref 888), (.int 1315 0), (.int 463 0), (.str (S "/claim/cut.py") 1316)])), (W [])⟩
def o899 (P : Params) : Obj := ⟨(.type "function"), none, (.func ⟨(S "_law_within"), (S "_law_within"), (defArgs (ST 86)), (.stmts (defBody (ST 86))), (defScope (ST 86)), 3, [], .none, .none, .none, (.str (S "law_nearcall_k18_turns_refused") 1252), none, (.ref 889), .none, 0⟩), (W [])⟩
def o900 (P : Params) : Obj := ⟨(.type "tuple"), none, (.seq (V []) 0), (W [])⟩
def o901 (P : Params) : Obj := ⟨.none, none, (.fields (V [])), (W [])⟩
def o902 (P : Params) : Obj := ⟨.none, none, (.func ⟨(S "_law_pairs"), (S "_law_pairs"), (defArgs (ST 87)), (.stmts (defBody (ST 87))), (defScope (ST 87)), 0, [], .none, .none, .none, .none, none, .none, .none, 0⟩), (W [])⟩
def o903 (P : Params) : Obj := ⟨(.type "code"), none, (.fields (V [(.str (S "_law_pairs") 1318), (.str (S "_law_pairs") 1319), (.str (S "/claim/cut.py") 1320), (.int 465 0), (.int 1 0), (.int 0 0), (.int 0 0), (.int 3 0), (.ref 891), (.bool true), (.int 181 0), (.ref 892), .none, .none, .none, (.ref 893), (.int 1321 0), (.int 465 0), (.str (S "/claim/cut.py") 1322)])), (W [])⟩
def o904 (P : Params) : Obj := ⟨(.type "function"), none, (.func ⟨(S "_law_pairs"), (S "_law_pairs"), (defArgs (ST 87)), (.stmts (defBody (ST 87))), (defScope (ST 87)), 3, [], .none, .none, .none, (.str (S "law_nearcall_k18_turns_refused") 1252), none, (.ref 894), .none, 0⟩), (W [])⟩
def o905 (P : Params) : Obj := ⟨(.type "tuple"), none, (.seq (V []) 0), (W [])⟩
def o906 (P : Params) : Obj := ⟨.none, none, (.fields (V [])), (W [])⟩
def o907 (P : Params) : Obj := ⟨(.type "tuple"), none, (.seq (V [(.str (S "_law_shuts_here") 1327), (.str (S "_law_found") 1328), (.str (S "_law_shut") 1329), (.str (S "_law_longer") 1330), (.str (S "_law_begun_it") 1331)]) 0), (W [])⟩
def o908 (P : Params) : Obj := ⟨(.type "tuple"), none, (.seq (V []) 0), (W [])⟩
def o909 (P : Params) : Obj := ⟨.none, none, (.func ⟨(S "_law_all"), (S "_law_all"), (defArgs (ST 88)), (.stmts (defBody (ST 88))), (defScope (ST 88)), 0, [], .none, .none, .none, .none, none, .none, .none, 0⟩), (W [])⟩
def o910 (P : Params) : Obj := ⟨(.type "code"), none, (.fields (V [(.str (S "_law_all") 1324), (.str (S "_law_all") 1325), (.str (S "/claim/cut.py") 1326), (.int 472 0), (.int 1 0), (.int 0 0), (.int 0 0), (.int 3 0), (.ref 896), (.bool true), (.int 181 0), (.ref 897), .none, (.ref 898), (.ref 899), (.ref 900), (.int 1332 0), (.int 472 0), (.str (S "/claim/cut.py") 1333)])), (W [])⟩
def o911 (P : Params) : Obj := ⟨(.type "function"), none, (.func ⟨(S "_law_all"), (S "_law_all"), (defArgs (ST 88)), (.stmts (defBody (ST 88))), (defScope (ST 88)), 3, [], .none, .none, .none, (.str (S "law_nearcall_k18_turns_refused") 1252), none, (.ref 901), .none, 0⟩), (W [])⟩
def o912 (P : Params) : Obj := ⟨(.type "tuple"), none, (.seq (V []) 0), (W [])⟩
def o913 (P : Params) : Obj := ⟨.none, none, (.fields (V [])), (W [])⟩
def o914 (P : Params) : Obj := ⟨.none, none, (.func ⟨(S "_law_rooms"), (S "_law_rooms"), (defArgs (ST 89)), (.stmts (defBody (ST 89))), (defScope (ST 89)), 0, [], .none, .none, .none, .none, none, .none, .none, 0⟩), (W [])⟩
def o915 (P : Params) : Obj := ⟨(.type "code"), none, (.fields (V [(.str (S "_law_rooms") 1335), (.str (S "_law_rooms") 1336), (.str (S "/claim/cut.py") 1337), (.int 480 0), (.int 2 0), (.int 0 0), (.int 0 0), (.int 3 0), (.ref 903), (.bool true), (.int 181 0), (.ref 904), .none, .none, .none, (.ref 905), (.int 1338 0), (.int 480 0), (.str (S "/claim/cut.py") 1339)])), (W [])⟩
def o916 (P : Params) : Obj := ⟨(.type "function"), none, (.func ⟨(S "_law_rooms"), (S "_law_rooms"), (defArgs (ST 89)), (.stmts (defBody (ST 89))), (defScope (ST 89)), 3, [], .none, .none, .none, (.str (S "law_nearcall_k18_turns_refused") 1252), none, (.ref 906), .none, 0⟩), (W [])⟩
def o917 (P : Params) : Obj := ⟨(.type "tuple"), none, (.seq (V []) 0), (W [])⟩
def o918 (P : Params) : Obj := ⟨.none, none, (.fields (V [])), (W [])⟩
def o919 (P : Params) : Obj := ⟨.none, none, (.func ⟨(S "_law_fine"), (S "_law_fine"), (defArgs (ST 90)), (.stmts (defBody (ST 90))), (defScope (ST 90)), 0, [], .none, .none, .none, .none, none, .none, .none, 0⟩), (W [])⟩
def o920 (P : Params) : Obj := ⟨(.type "code"), none, (.fields (V [(.str (S "_law_fine") 1341), (.str (S "_law_fine") 1342), (.str (S "/claim/cut.py") 1343), (.int 482 0), (.int 2 0), (.int 0 0), (.int 0 0), (.int 3 0), (.ref 908), (.bool true), (.int 181 0), (.ref 909), .none, .none, .none, (.ref 910), (.int 1344 0), (.int 482 0), (.str (S "/claim/cut.py") 1345)])), (W [])⟩
def o921 (P : Params) : Obj := ⟨(.type "function"), none, (.func ⟨(S "_law_fine"), (S "_law_fine"), (defArgs (ST 90)), (.stmts (defBody (ST 90))), (defScope (ST 90)), 3, [], .none, .none, .none, (.str (S "law_nearcall_k18_turns_refused") 1252), none, (.ref 911), .none, 0⟩), (W [])⟩
def o922 (P : Params) : Obj := ⟨(.type "tuple"), none, (.seq (V []) 0), (W [])⟩
def o923 (P : Params) : Obj := ⟨.none, none, (.fields (V [])), (W [])⟩
def o924 (P : Params) : Obj := ⟨(.type "tuple"), none, (.seq (V [(.str (S "_law_d") 1350), (.str (S "_law_most") 1351), (.str (S "_law_shuts_here") 1352), (.str (S "_law_bars") 1353), (.str (S "_law_many") 1354), (.str (S "_law_k") 1355), (.str (S "_law_bar") 1356)]) 0), (W [])⟩
def o925 (P : Params) : Obj := ⟨(.type "tuple"), none, (.seq (V []) 0), (W [])⟩
def o926 (P : Params) : Obj := ⟨.none, none, (.func ⟨(S "_law_hall"), (S "_law_hall"), (defArgs (ST 91)), (.stmts (defBody (ST 91))), (defScope (ST 91)), 0, [], .none, .none, .none, .none, none, .none, .none, 0⟩), (W [])⟩
def o927 (P : Params) : Obj := ⟨(.type "code"), none, (.fields (V [(.str (S "_law_hall") 1347), (.str (S "_law_hall") 1348), (.str (S "/claim/cut.py") 1349), (.int 492 0), (.int 2 0), (.int 0 0), (.int 0 0), (.int 3 0), (.ref 913), (.bool true), (.int 181 0), (.ref 914), .none, (.ref 915), (.ref 916), (.ref 917), (.int 1357 0), (.int 492 0), (.str (S "/claim/cut.py") 1358)])), (W [])⟩
def o928 (P : Params) : Obj := ⟨(.type "function"), none, (.func ⟨(S "_law_hall"), (S "_law_hall"), (defArgs (ST 91)), (.stmts (defBody (ST 91))), (defScope (ST 91)), 3, [], .none, .none, .none, (.str (S "law_nearcall_k18_turns_refused") 1252), none, (.ref 918), .none, 0⟩), (W [])⟩
def o929 (P : Params) : Obj := ⟨(.type "tuple"), none, (.seq (V []) 0), (W [])⟩
def o930 (P : Params) : Obj := ⟨.none, none, (.fields (V [])), (W [])⟩
def o931 (P : Params) : Obj := ⟨.none, none, (.func ⟨(S "_law_image"), (S "_law_image"), (defArgs (ST 92)), (.stmts (defBody (ST 92))), (defScope (ST 92)), 0, [], .none, .none, .none, .none, none, .none, .none, 0⟩), (W [])⟩
def o932 (P : Params) : Obj := ⟨(.type "code"), none, (.fields (V [(.str (S "_law_image") 1360), (.str (S "_law_image") 1361), (.str (S "/claim/cut.py") 1362), (.int 500 0), (.int 3 0), (.int 0 0), (.int 0 0), (.int 3 0), (.ref 920), (.bool true), (.int 181 0), (.ref 921), .none, .none, .none, (.ref 922), (.int 1363 0), (.int 500 0), (.str (S "/claim/cut.py") 1364)])), (W [])⟩
def o933 (P : Params) : Obj := ⟨(.type "function"), none, (.func ⟨(S "_law_image"), (S "_law_image"), (defArgs (ST 92)), (.stmts (defBody (ST 92))), (defScope (ST 92)), 3, [], .none, .none, .none, (.str (S "law_nearcall_k18_turns_refused") 1252), none, (.ref 923), .none, 0⟩), (W [])⟩
def o934 (P : Params) : Obj := ⟨(.type "tuple"), none, (.seq (V []) 0), (W [])⟩
def o935 (P : Params) : Obj := ⟨.none, none, (.fields (V [])), (W [])⟩
def o936 (P : Params) : Obj := ⟨.none, none, (.func ⟨(S "_law_by_shuts"), (S "_law_by_shuts"), (defArgs (ST 93)), (.stmts (defBody (ST 93))), (defScope (ST 93)), 0, [], .none, .none, .none, .none, none, .none, .none, 0⟩), (W [])⟩
def o937 (P : Params) : Obj := ⟨(.type "code"), none, (.fields (V [(.str (S "_law_by_shuts") 1366), (.str (S "_law_by_shuts") 1367), (.str (S "/claim/cut.py") 1368), (.int 506 0), (.int 1 0), (.int 0 0), (.int 0 0), (.int 3 0), (.ref 925), (.bool true), (.int 181 0), (.ref 926), .none, .none, .none, (.ref 927), (.int 1369 0), (.int 506 0), (.str (S "/claim/cut.py") 1370)])), (W [])⟩
def o938 (P : Params) : Obj := ⟨(.type "function"), none, (.func ⟨(S "_law_by_shuts"), (S "_law_by_shuts"), (defArgs (ST 93)), (.stmts (defBody (ST 93))), (defScope (ST 93)), 3, [], .none, .none, .none, (.str (S "law_nearcall_k18_turns_refused") 1252), none, (.ref 928), .none, 0⟩), (W [])⟩
def o939 (P : Params) : Obj := ⟨(.type "tuple"), none, (.seq (V []) 0), (W [])⟩
def o940 (P : Params) : Obj := ⟨.none, none, (.fields (V [])), (W [])⟩
def o941 (P : Params) : Obj := ⟨.none, none, (.func ⟨(S "_law_some_turn"), (S "_law_some_turn"), (defArgs (ST 94)), (.stmts (defBody (ST 94))), (defScope (ST 94)), 0, [], .none, .none, .none, .none, none, .none, .none, 0⟩), (W [])⟩
def o942 (P : Params) : Obj := ⟨(.type "code"), none, (.fields (V [(.str (S "_law_some_turn") 1372), (.str (S "_law_some_turn") 1373), (.str (S "/claim/cut.py") 1374), (.int 511 0), (.int 2 0), (.int 0 0), (.int 0 0), (.int 3 0), (.ref 930), (.bool true), (.int 181 0), (.ref 931), .none, .none, .none, (.ref 932), (.int 1375 0), (.int 511 0), (.str (S "/claim/cut.py") 1376)])), (W [])⟩
def o943 (P : Params) : Obj := ⟨(.type "function"), none, (.func ⟨(S "_law_some_turn"), (S "_law_some_turn"), (defArgs (ST 94)), (.stmts (defBody (ST 94))), (defScope (ST 94)), 3, [], .none, .none, .none, (.str (S "law_nearcall_k18_turns_refused") 1252), none, (.ref 933), .none, 0⟩), (W [])⟩
def o944 (P : Params) : Obj := ⟨(.type "tuple"), none, (.seq (V []) 0), (W [])⟩
def o945 (P : Params) : Obj := ⟨.none, none, (.fields (V [])), (W [])⟩
def o946 (P : Params) : Obj := ⟨(.type "tuple"), none, (.seq (V [(.str (S "_law_ask") 1381), (.str (S "_law_found") 1382), (.str (S "e") 1383)]) 0), (W [])⟩
def o947 (P : Params) : Obj := ⟨(.type "tuple"), none, (.seq (V []) 0), (W [])⟩
def o948 (P : Params) : Obj := ⟨.none, none, (.func ⟨(S "_law_word"), (S "_law_word"), (defArgs (ST 95)), (.stmts (defBody (ST 95))), (defScope (ST 95)), 0, [], .none, .none, .none, .none, none, .none, .none, 0⟩), (W [])⟩
def o949 (P : Params) : Obj := ⟨(.type "code"), none, (.fields (V [(.str (S "_law_word") 1378), (.str (S "_law_word") 1379), (.str (S "/claim/cut.py") 1380), (.int 513 0), (.int 1 0), (.int 0 0), (.int 0 0), (.int 3 0), (.ref 935), (.bool true), (.int 181 0), (.ref 936), .none, (.ref 937), (.ref 938), (.ref 939), (.int 1384 0), (.int 513 0), (.str (S "/claim/cut.py") 1385)])), (W [])⟩
def o950 (P : Params) : Obj := ⟨(.type "function"), none, (.func ⟨(S "_law_word"), (S "_law_word"), (defArgs (ST 95)), (.stmts (defBody (ST 95))), (defScope (ST 95)), 3, [], .none, .none, .none, (.str (S "law_nearcall_k18_turns_refused") 1252), none, (.ref 940), .none, 0⟩), (W [])⟩
def o951 (P : Params) : Obj := ⟨(.type "tuple"), none, (.seq (V []) 0), (W [])⟩
def o952 (P : Params) : Obj := ⟨.none, none, (.fields (V [])), (W [])⟩
def o953 (P : Params) : Obj := ⟨(.type "tuple"), none, (.seq (V [(.str (S "_law_ask") 1390), (.str (S "_law_due") 1391)]) 0), (W [])⟩
def o954 (P : Params) : Obj := ⟨(.type "tuple"), none, (.seq (V []) 0), (W [])⟩
def o955 (P : Params) : Obj := ⟨.none, none, (.func ⟨(S "_law_refused"), (S "_law_refused"), (defArgs (ST 96)), (.stmts (defBody (ST 96))), (defScope (ST 96)), 0, [], .none, .none, .none, .none, none, .none, .none, 0⟩), (W [])⟩
def o956 (P : Params) : Obj := ⟨(.type "code"), none, (.fields (V [(.str (S "_law_refused") 1387), (.str (S "_law_refused") 1388), (.str (S "/claim/cut.py") 1389), (.int 519 0), (.int 2 0), (.int 0 0), (.int 0 0), (.int 3 0), (.ref 942), (.bool true), (.int 181 0), (.ref 943), .none, (.ref 944), (.ref 945), (.ref 946), (.int 1392 0), (.int 519 0), (.str (S "/claim/cut.py") 1393)])), (W [])⟩
def o957 (P : Params) : Obj := ⟨(.type "function"), none, (.func ⟨(S "_law_refused"), (S "_law_refused"), (defArgs (ST 96)), (.stmts (defBody (ST 96))), (defScope (ST 96)), 3, [], .none, .none, .none, (.str (S "law_nearcall_k18_turns_refused") 1252), none, (.ref 947), .none, 0⟩), (W [])⟩
def o958 (P : Params) : Obj := ⟨(.type "tuple"), none, (.seq (V []) 0), (W [])⟩
def o959 (P : Params) : Obj := ⟨.none, none, (.fields (V [])), (W [])⟩
def o960 (P : Params) : Obj := ⟨.none, none, (.func ⟨(S "_law_is_turn"), (S "_law_is_turn"), (defArgs (ST 97)), (.stmts (defBody (ST 97))), (defScope (ST 97)), 0, [], .none, .none, .none, .none, none, .none, .none, 0⟩), (W [])⟩
def o961 (P : Params) : Obj := ⟨(.type "code"), none, (.fields (V [(.str (S "_law_is_turn") 1395), (.str (S "_law_is_turn") 1396), (.str (S "/claim/cut.py") 1397), (.int 521 0), (.int 3 0), (.int 0 0), (.int 0 0), (.int 3 0), (.ref 949), (.bool true), (.int 181 0), (.ref 950), .none, .none, .none, (.ref 951), (.int 1398 0), (.int 521 0), (.str (S "/claim/cut.py") 1399)])), (W [])⟩
def o962 (P : Params) : Obj := ⟨(.type "function"), none, (.func ⟨(S "_law_is_turn"), (S "_law_is_turn"), (defArgs (ST 97)), (.stmts (defBody (ST 97))), (defScope (ST 97)), 3, [], .none, .none, .none, (.str (S "law_nearcall_k18_turns_refused") 1252), none, (.ref 952), .none, 0⟩), (W [])⟩
def o963 (P : Params) : Obj := ⟨(.type "tuple"), none, (.seq (V []) 0), (W [])⟩
def o964 (P : Params) : Obj := ⟨.none, none, (.fields (V [])), (W [])⟩
def o965 (P : Params) : Obj := ⟨.none, none, (.func ⟨(S "law"), (S "law"), (defArgs (ST 98)), (.stmts (defBody (ST 98))), (defScope (ST 98)), 0, [], .none, .none, .none, .none, none, .none, .none, 0⟩), (W [])⟩
def o966 (P : Params) : Obj := ⟨(.type "code"), none, (.fields (V [(.str (S "law") 1401), (.str (S "law") 1402), (.str (S "/claim/cut.py") 1403), (.int 525 0), (.int 1 0), (.int 0 0), (.int 0 0), (.int 3 0), (.ref 954), (.bool true), (.int 181 0), (.ref 955), .none, .none, .none, (.ref 956), (.int 1404 0), (.int 525 0), (.str (S "/claim/cut.py") 1405)])), (W [])⟩
def o967 (P : Params) : Obj := ⟨(.type "function"), none, (.func ⟨(S "law"), (S "law"), (defArgs (ST 98)), (.stmts (defBody (ST 98))), (defScope (ST 98)), 3, [], .none, .none, .none, (.str (S "law_nearcall_k18_turns_refused") 1252), none, (.ref 957), .none, 0⟩), (W [])⟩
def objs_7 (P : Params) : List Obj :=
  [boot_o_0 P, boot_o_1 P, o248 P, o886 P, boot_o_4 P, boot_o_5 P, boot_o_6 P, boot_o_7 P, boot_o_8 P, boot_o_9 P, boot_o_10 P, o0 P, o887 P, o2 P, o3 P, o6 P, o7 P, o8 P, o9 P, o10 P, o11 P, o12 P, o13 P, o14 P, o15 P, o16 P, o17 P, o18 P, o19 P, o20 P, o21 P, o22 P, o23 P, o24 P, o25 P, o26 P, o27 P, o28 P, o251 P, o30 P] ++ (
  [o31 P, o32 P, o33 P, o34 P, o35 P, o36 P, o37 P, o38 P, o39 P, o40 P, o41 P, o42 P, o43 P, o44 P, o45 P, o46 P, o47 P, o48 P, o49 P, o50 P, o51 P, o52 P, o53 P, o54 P, o55 P, o56 P, o57 P, o58 P, o59 P, o60 P, o61 P, o62 P, o63 P, o64 P, o65 P, o66 P, o67 P, o68 P, o69 P, o70 P] ++ (
  [o71 P, o72 P, o73 P, o74 P, o75 P, o76 P, o77 P, o78 P, o79 P, o80 P, o81 P, o82 P, o83 P, o84 P, o85 P, o86 P, o87 P, o88 P, o89 P, o93 P, o94 P, o95 P, o96 P, o97 P, o98 P, o99 P, o100 P, o101 P, o102 P, o103 P, o104 P, o105 P, o106 P, o107 P, o108 P, o109 P, o110 P, o111 P, o112 P, o113 P] ++ (
  [o114 P, o115 P, o116 P, o117 P, o118 P, o119 P, o120 P, o121 P, o122 P, o123 P, o124 P, o125 P, o126 P, o127 P, o128 P, o129 P, o130 P, o131 P, o132 P, o133 P, o134 P, o135 P, o136 P, o137 P, o138 P, o139 P, o140 P, o141 P, o142 P, o143 P, o144 P, o145 P, o146 P, o147 P, o148 P, o149 P, o150 P, o151 P, o152 P, o153 P] ++ (
  [o154 P, o155 P, o156 P, o157 P, o158 P, o159 P, o160 P, o161 P, o162 P, o163 P, o164 P, o165 P, o166 P, o167 P, o168 P, o172 P, o173 P, o174 P, o175 P, o176 P, o177 P, o178 P, o179 P, o180 P, o181 P, o182 P, o183 P, o184 P, o185 P, o186 P, o187 P, o188 P, o189 P, o190 P, o191 P, o192 P, o193 P, o194 P, o195 P, o196 P] ++ (
  [o197 P, o198 P, o199 P, o200 P, o201 P, o202 P, o203 P, o204 P, o205 P, o206 P, o207 P, o208 P, o209 P, o210 P, o211 P, o212 P, o213 P, o214 P, o215 P, o216 P, o217 P, o218 P, o219 P, o220 P, o221 P, o222 P, o223 P, o224 P, o225 P, o226 P, o227 P, o228 P, o229 P, o230 P, o231 P, o232 P, o233 P, o234 P, o235 P, o236 P] ++ (
  [o237 P, o238 P, o239 P, o240 P, o241 P, o242 P, o243 P, o244 P, o245 P, o246 P, o247 P, o252 P, o253 P, o254 P, o255 P, o256 P, o257 P, o258 P, o259 P, o260 P, o261 P, o262 P, o263 P, o264 P, o265 P, o266 P, o267 P, o268 P, o269 P, o270 P, o271 P, o272 P, o273 P, o274 P, o275 P, o276 P, o277 P, o278 P, o279 P, o280 P] ++ (
  [o281 P, o282 P, o283 P, o284 P, o285 P, o286 P, o287 P, o288 P, o289 P, o290 P, o291 P, o292 P, o293 P, o294 P, o295 P, o296 P, o297 P, o298 P, o299 P, o300 P, o301 P, o302 P, o303 P, o304 P, o305 P, o306 P, o307 P, o308 P, o309 P, o310 P, o311 P, o312 P, o313 P, o314 P, o315 P, o316 P, o317 P, o318 P, o319 P, o320 P] ++ (
  [o321 P, o322 P, o323 P, o324 P, o325 P, o326 P, o327 P, o328 P, o329 P, o330 P, o331 P, o332 P, o333 P, o334 P, o335 P, o336 P, o337 P, o338 P, o339 P, o340 P, o341 P, o342 P, o343 P, o344 P, o345 P, o346 P, o347 P, o348 P, o349 P, o350 P, o351 P, o352 P, o353 P, o354 P, o355 P, o356 P, o357 P, o358 P, o359 P, o360 P] ++ (
  [o361 P, o362 P, o363 P, o364 P, o365 P, o366 P, o367 P, o368 P, o369 P, o370 P, o371 P, o372 P, o373 P, o374 P, o377 P, o378 P, o379 P, o380 P, o381 P, o382 P, o383 P, o384 P, o385 P, o386 P, o387 P, o388 P, o389 P, o390 P, o391 P, o392 P, o393 P, o394 P, o395 P, o396 P, o397 P, o398 P, o399 P, o400 P, o401 P, o402 P] ++ (
  [o403 P, o404 P, o405 P, o406 P, o407 P, o408 P, o409 P, o410 P, o411 P, o412 P, o413 P, o414 P, o415 P, o416 P, o417 P, o418 P, o419 P, o420 P, o421 P, o422 P, o423 P, o424 P, o425 P, o426 P, o427 P, o428 P, o429 P, o430 P, o431 P, o432 P, o433 P, o434 P, o435 P, o436 P, o437 P, o438 P, o439 P, o440 P, o441 P, o442 P] ++ (
  [o443 P, o444 P, o445 P, o446 P, o447 P, o448 P, o449 P, o450 P, o451 P, o452 P, o453 P, o454 P, o455 P, o456 P, o457 P, o458 P, o459 P, o460 P, o461 P, o462 P, o463 P, o464 P, o465 P, o466 P, o467 P, o468 P, o469 P, o470 P, o471 P, o472 P, o473 P, o474 P, o475 P, o476 P, o477 P, o478 P, o479 P, o480 P, o481 P, o482 P] ++ (
  [o483 P, o484 P, o485 P, o486 P, o487 P, o488 P, o489 P, o490 P, o491 P, o492 P, o493 P, o494 P, o495 P, o496 P, o497 P, o498 P, o499 P, o500 P, o501 P, o502 P, o503 P, o504 P, o505 P, o506 P, o507 P, o508 P, o509 P, o510 P, o511 P, o512 P, o513 P, o514 P, o515 P, o516 P, o517 P, o518 P, o519 P, o520 P, o521 P, o522 P] ++ (
  [o523 P, o524 P, o525 P, o526 P, o527 P, o528 P, o529 P, o530 P, o531 P, o532 P, o533 P, o534 P, o535 P, o536 P, o537 P, o538 P, o539 P, o540 P, o541 P, o542 P, o543 P, o544 P, o545 P, o546 P, o547 P, o548 P, o549 P, o550 P, o551 P, o552 P, o553 P, o554 P, o555 P, o558 P, o559 P, o560 P, o561 P, o562 P, o563 P, o564 P] ++ (
  [o565 P, o566 P, o567 P, o568 P, o569 P, o570 P, o571 P, o572 P, o573 P, o574 P, o575 P, o576 P, o577 P, o578 P, o579 P, o580 P, o581 P, o582 P, o583 P, o584 P, o585 P, o586 P, o587 P, o588 P, o589 P, o590 P, o591 P, o592 P, o593 P, o594 P, o595 P, o596 P, o597 P, o598 P, o599 P, o600 P, o601 P, o602 P, o603 P, o604 P] ++ (
  [o605 P, o606 P, o607 P, o608 P, o609 P, o610 P, o611 P, o612 P, o613 P, o614 P, o615 P, o616 P, o617 P, o618 P, o619 P, o620 P, o621 P, o622 P, o623 P, o624 P, o625 P, o626 P, o627 P, o628 P, o629 P, o630 P, o631 P, o632 P, o633 P, o634 P, o635 P, o636 P, o637 P, o638 P, o639 P, o640 P, o641 P, o642 P, o643 P, o644 P] ++ (
  [o645 P, o646 P, o647 P, o648 P, o649 P, o650 P, o651 P, o652 P, o653 P, o654 P, o655 P, o656 P, o657 P, o658 P, o659 P, o660 P, o661 P, o662 P, o663 P, o664 P, o665 P, o666 P, o667 P, o668 P, o669 P, o670 P, o671 P, o672 P, o673 P, o674 P, o675 P, o676 P, o677 P, o678 P, o679 P, o680 P, o681 P, o682 P, o683 P, o684 P] ++ (
  [o685 P, o686 P, o687 P, o688 P, o689 P, o690 P, o691 P, o692 P, o693 P, o694 P, o695 P, o696 P, o697 P, o698 P, o699 P, o700 P, o701 P, o702 P, o703 P, o704 P, o705 P, o706 P, o709 P, o710 P, o711 P, o712 P, o713 P, o714 P, o715 P, o716 P, o717 P, o718 P, o719 P, o720 P, o721 P, o722 P, o723 P, o724 P, o725 P, o726 P] ++ (
  [o727 P, o728 P, o729 P, o730 P, o731 P, o732 P, o733 P, o734 P, o735 P, o736 P, o737 P, o738 P, o739 P, o740 P, o741 P, o742 P, o743 P, o744 P, o745 P, o746 P, o747 P, o748 P, o749 P, o750 P, o751 P, o752 P, o753 P, o754 P, o755 P, o756 P, o757 P, o758 P, o759 P, o760 P, o761 P, o762 P, o763 P, o764 P, o765 P, o766 P] ++ (
  [o767 P, o768 P, o769 P, o770 P, o771 P, o772 P, o773 P, o774 P, o775 P, o776 P, o777 P, o778 P, o779 P, o780 P, o781 P, o782 P, o783 P, o784 P, o785 P, o786 P, o787 P, o788 P, o789 P, o790 P, o791 P, o792 P, o793 P, o794 P, o795 P, o796 P, o797 P, o798 P, o799 P, o800 P, o801 P, o802 P, o803 P, o804 P, o805 P, o806 P] ++ (
  [o807 P, o808 P, o809 P, o810 P, o811 P, o812 P, o813 P, o814 P, o815 P, o816 P, o817 P, o818 P, o819 P, o820 P, o821 P, o822 P, o823 P, o824 P, o825 P, o826 P, o827 P, o828 P, o829 P, o830 P, o831 P, o832 P, o833 P, o834 P, o835 P, o836 P, o837 P, o838 P, o839 P, o840 P, o841 P, o842 P, o843 P, o844 P, o845 P, o846 P] ++ (
  [o847 P, o848 P, o849 P, o850 P, o851 P, o852 P, o853 P, o854 P, o855 P, o856 P, o857 P, o858 P, o859 P, o860 P, o861 P, o862 P, o863 P, o864 P, o865 P, o866 P, o867 P, o868 P, o869 P, o870 P, o871 P, o872 P, o873 P, o874 P, o875 P, o876 P, o877 P, o878 P, o879 P, o880 P, o881 P, o882 P, o883 P, o884 P, o885 P, o888 P] ++ (
  [o889 P, o890 P, o891 P, o892 P, o893 P, o894 P, o895 P, o896 P, o897 P, o898 P, o899 P, o900 P, o901 P, o902 P, o903 P, o904 P, o905 P, o906 P, o907 P, o908 P, o909 P, o910 P, o911 P, o912 P, o913 P, o914 P, o915 P, o916 P, o917 P, o918 P, o919 P, o920 P, o921 P, o922 P, o923 P, o924 P, o925 P, o926 P, o927 P, o928 P] ++ (
  [o929 P, o930 P, o931 P, o932 P, o933 P, o934 P, o935 P, o936 P, o937 P, o938 P, o939 P, o940 P, o941 P, o942 P, o943 P, o944 P, o945 P, o946 P, o947 P, o948 P, o949 P, o950 P, o951 P, o952 P, o953 P, o954 P, o955 P, o956 P, o957 P, o958 P, o959 P, o960 P, o961 P, o962 P, o963 P, o964 P, o965 P, o966 P, o967 P])))))))))))))))))))))))
def objs_f (P : Params) : List Obj :=
  [boot_o_0 P, boot_o_1 P, o248 P, o886 P, boot_o_4 P, boot_o_5 P, boot_o_6 P, boot_o_7 P, boot_o_8 P, boot_o_9 P, boot_o_10 P, o0 P, o887 P, o2 P, o3 P, o6 P, o7 P, o8 P, o9 P, o10 P, o11 P, o12 P, o13 P, o14 P, o15 P, o16 P, o17 P, o18 P, o19 P, o20 P, o21 P, o22 P, o23 P, o24 P, o25 P, o26 P, o27 P, o28 P, o251 P, o30 P] ++ (
  [o31 P, o32 P, o33 P, o34 P, o35 P, o36 P, o37 P, o38 P, o39 P, o40 P, o41 P, o42 P, o43 P, o44 P, o45 P, o46 P, o47 P, o48 P, o49 P, o50 P, o51 P, o52 P, o53 P, o54 P, o55 P, o56 P, o57 P, o58 P, o59 P, o60 P, o61 P, o62 P, o63 P, o64 P, o65 P, o66 P, o67 P, o68 P, o69 P, o70 P] ++ (
  [o71 P, o72 P, o73 P, o74 P, o75 P, o76 P, o77 P, o78 P, o79 P, o80 P, o81 P, o82 P, o83 P, o84 P, o85 P, o86 P, o87 P, o88 P, o89 P, o93 P, o94 P, o95 P, o96 P, o97 P, o98 P, o99 P, o100 P, o101 P, o102 P, o103 P, o104 P, o105 P, o106 P, o107 P, o108 P, o109 P, o110 P, o111 P, o112 P, o113 P] ++ (
  [o114 P, o115 P, o116 P, o117 P, o118 P, o119 P, o120 P, o121 P, o122 P, o123 P, o124 P, o125 P, o126 P, o127 P, o128 P, o129 P, o130 P, o131 P, o132 P, o133 P, o134 P, o135 P, o136 P, o137 P, o138 P, o139 P, o140 P, o141 P, o142 P, o143 P, o144 P, o145 P, o146 P, o147 P, o148 P, o149 P, o150 P, o151 P, o152 P, o153 P] ++ (
  [o154 P, o155 P, o156 P, o157 P, o158 P, o159 P, o160 P, o161 P, o162 P, o163 P, o164 P, o165 P, o166 P, o167 P, o168 P, o172 P, o173 P, o174 P, o175 P, o176 P, o177 P, o178 P, o179 P, o180 P, o181 P, o182 P, o183 P, o184 P, o185 P, o186 P, o187 P, o188 P, o189 P, o190 P, o191 P, o192 P, o193 P, o194 P, o195 P, o196 P] ++ (
  [o197 P, o198 P, o199 P, o200 P, o201 P, o202 P, o203 P, o204 P, o205 P, o206 P, o207 P, o208 P, o209 P, o210 P, o211 P, o212 P, o213 P, o214 P, o215 P, o216 P, o217 P, o218 P, o219 P, o220 P, o221 P, o222 P, o223 P, o224 P, o225 P, o226 P, o227 P, o228 P, o229 P, o230 P, o231 P, o232 P, o233 P, o234 P, o235 P, o236 P] ++ (
  [o237 P, o238 P, o239 P, o240 P, o241 P, o242 P, o243 P, o244 P, o245 P, o246 P, o247 P, o252 P, o253 P, o254 P, o255 P, o256 P, o257 P, o258 P, o259 P, o260 P, o261 P, o262 P, o263 P, o264 P, o265 P, o266 P, o267 P, o268 P, o269 P, o270 P, o271 P, o272 P, o273 P, o274 P, o275 P, o276 P, o277 P, o278 P, o279 P, o280 P] ++ (
  [o281 P, o282 P, o283 P, o284 P, o285 P, o286 P, o287 P, o288 P, o289 P, o290 P, o291 P, o292 P, o293 P, o294 P, o295 P, o296 P, o297 P, o298 P, o299 P, o300 P, o301 P, o302 P, o303 P, o304 P, o305 P, o306 P, o307 P, o308 P, o309 P, o310 P, o311 P, o312 P, o313 P, o314 P, o315 P, o316 P, o317 P, o318 P, o319 P, o320 P] ++ (
  [o321 P, o322 P, o323 P, o324 P, o325 P, o326 P, o327 P, o328 P, o329 P, o330 P, o331 P, o332 P, o333 P, o334 P, o335 P, o336 P, o337 P, o338 P, o339 P, o340 P, o341 P, o342 P, o343 P, o344 P, o345 P, o346 P, o347 P, o348 P, o349 P, o350 P, o351 P, o352 P, o353 P, o354 P, o355 P, o356 P, o357 P, o358 P, o359 P, o360 P] ++ (
  [o361 P, o362 P, o363 P, o364 P, o365 P, o366 P, o367 P, o368 P, o369 P, o370 P, o371 P, o372 P, o373 P, o374 P, o377 P, o378 P, o379 P, o380 P, o381 P, o382 P, o383 P, o384 P, o385 P, o386 P, o387 P, o388 P, o389 P, o390 P, o391 P, o392 P, o393 P, o394 P, o395 P, o396 P, o397 P, o398 P, o399 P, o400 P, o401 P, o402 P] ++ (
  [o403 P, o404 P, o405 P, o406 P, o407 P, o408 P, o409 P, o410 P, o411 P, o412 P, o413 P, o414 P, o415 P, o416 P, o417 P, o418 P, o419 P, o420 P, o421 P, o422 P, o423 P, o424 P, o425 P, o426 P, o427 P, o428 P, o429 P, o430 P, o431 P, o432 P, o433 P, o434 P, o435 P, o436 P, o437 P, o438 P, o439 P, o440 P, o441 P, o442 P] ++ (
  [o443 P, o444 P, o445 P, o446 P, o447 P, o448 P, o449 P, o450 P, o451 P, o452 P, o453 P, o454 P, o455 P, o456 P, o457 P, o458 P, o459 P, o460 P, o461 P, o462 P, o463 P, o464 P, o465 P, o466 P, o467 P, o468 P, o469 P, o470 P, o471 P, o472 P, o473 P, o474 P, o475 P, o476 P, o477 P, o478 P, o479 P, o480 P, o481 P, o482 P] ++ (
  [o483 P, o484 P, o485 P, o486 P, o487 P, o488 P, o489 P, o490 P, o491 P, o492 P, o493 P, o494 P, o495 P, o496 P, o497 P, o498 P, o499 P, o500 P, o501 P, o502 P, o503 P, o504 P, o505 P, o506 P, o507 P, o508 P, o509 P, o510 P, o511 P, o512 P, o513 P, o514 P, o515 P, o516 P, o517 P, o518 P, o519 P, o520 P, o521 P, o522 P] ++ (
  [o523 P, o524 P, o525 P, o526 P, o527 P, o528 P, o529 P, o530 P, o531 P, o532 P, o533 P, o534 P, o535 P, o536 P, o537 P, o538 P, o539 P, o540 P, o541 P, o542 P, o543 P, o544 P, o545 P, o546 P, o547 P, o548 P, o549 P, o550 P, o551 P, o552 P, o553 P, o554 P, o555 P, o558 P, o559 P, o560 P, o561 P, o562 P, o563 P, o564 P] ++ (
  [o565 P, o566 P, o567 P, o568 P, o569 P, o570 P, o571 P, o572 P, o573 P, o574 P, o575 P, o576 P, o577 P, o578 P, o579 P, o580 P, o581 P, o582 P, o583 P, o584 P, o585 P, o586 P, o587 P, o588 P, o589 P, o590 P, o591 P, o592 P, o593 P, o594 P, o595 P, o596 P, o597 P, o598 P, o599 P, o600 P, o601 P, o602 P, o603 P, o604 P] ++ (
  [o605 P, o606 P, o607 P, o608 P, o609 P, o610 P, o611 P, o612 P, o613 P, o614 P, o615 P, o616 P, o617 P, o618 P, o619 P, o620 P, o621 P, o622 P, o623 P, o624 P, o625 P, o626 P, o627 P, o628 P, o629 P, o630 P, o631 P, o632 P, o633 P, o634 P, o635 P, o636 P, o637 P, o638 P, o639 P, o640 P, o641 P, o642 P, o643 P, o644 P] ++ (
  [o645 P, o646 P, o647 P, o648 P, o649 P, o650 P, o651 P, o652 P, o653 P, o654 P, o655 P, o656 P, o657 P, o658 P, o659 P, o660 P, o661 P, o662 P, o663 P, o664 P, o665 P, o666 P, o667 P, o668 P, o669 P, o670 P, o671 P, o672 P, o673 P, o674 P, o675 P, o676 P, o677 P, o678 P, o679 P, o680 P, o681 P, o682 P, o683 P, o684 P] ++ (
  [o685 P, o686 P, o687 P, o688 P, o689 P, o690 P, o691 P, o692 P, o693 P, o694 P, o695 P, o696 P, o697 P, o698 P, o699 P, o700 P, o701 P, o702 P, o703 P, o704 P, o705 P, o706 P, o709 P, o710 P, o711 P, o712 P, o713 P, o714 P, o715 P, o716 P, o717 P, o718 P, o719 P, o720 P, o721 P, o722 P, o723 P, o724 P, o725 P, o726 P] ++ (
  [o727 P, o728 P, o729 P, o730 P, o731 P, o732 P, o733 P, o734 P, o735 P, o736 P, o737 P, o738 P, o739 P, o740 P, o741 P, o742 P, o743 P, o744 P, o745 P, o746 P, o747 P, o748 P, o749 P, o750 P, o751 P, o752 P, o753 P, o754 P, o755 P, o756 P, o757 P, o758 P, o759 P, o760 P, o761 P, o762 P, o763 P, o764 P, o765 P, o766 P] ++ (
  [o767 P, o768 P, o769 P, o770 P, o771 P, o772 P, o773 P, o774 P, o775 P, o776 P, o777 P, o778 P, o779 P, o780 P, o781 P, o782 P, o783 P, o784 P, o785 P, o786 P, o787 P, o788 P, o789 P, o790 P, o791 P, o792 P, o793 P, o794 P, o795 P, o796 P, o797 P, o798 P, o799 P, o800 P, o801 P, o802 P, o803 P, o804 P, o805 P, o806 P] ++ (
  [o807 P, o808 P, o809 P, o810 P, o811 P, o812 P, o813 P, o814 P, o815 P, o816 P, o817 P, o818 P, o819 P, o820 P, o821 P, o822 P, o823 P, o824 P, o825 P, o826 P, o827 P, o828 P, o829 P, o830 P, o831 P, o832 P, o833 P, o834 P, o835 P, o836 P, o837 P, o838 P, o839 P, o840 P, o841 P, o842 P, o843 P, o844 P, o845 P, o846 P] ++ (
  [o847 P, o848 P, o849 P, o850 P, o851 P, o852 P, o853 P, o854 P, o855 P, o856 P, o857 P, o858 P, o859 P, o860 P, o861 P, o862 P, o863 P, o864 P, o865 P, o866 P, o867 P, o868 P, o869 P, o870 P, o871 P, o872 P, o873 P, o874 P, o875 P, o876 P, o877 P, o878 P, o879 P, o880 P, o881 P, o882 P, o883 P, o884 P, o885 P, o888 P] ++ (
  [o889 P, o890 P, o891 P, o892 P, o893 P, o894 P, o895 P, o896 P, o897 P, o898 P, o899 P, o900 P, o901 P, o902 P, o903 P, o904 P, o905 P, o906 P, o907 P, o908 P, o909 P, o910 P, o911 P, o912 P, o913 P, o914 P, o915 P, o916 P, o917 P, o918 P, o919 P, o920 P, o921 P, o922 P, o923 P, o924 P, o925 P, o926 P, o927 P, o928 P] ++ (
  [o929 P, o930 P, o931 P, o932 P, o933 P, o934 P, o935 P, o936 P, o937 P, o938 P, o939 P, o940 P, o941 P, o942 P, o943 P, o944 P, o945 P, o946 P, o947 P, o948 P, o949 P, o950 P, o951 P, o952 P, o953 P, o954 P, o955 P, o956 P, o957 P, o958 P, o959 P, o960 P, o961 P, o962 P, o963 P, o964 P, o965 P, o966 P, o967 P])))))))))))))))))))))))
def KF (P : Params) : Frag := List.cons (nat_lit 2, o248 P) (
  List.cons (nat_lit 3, o886 P) (
  List.cons (nat_lit 15, o6 P) (
  List.cons (nat_lit 17, o8 P) (
  List.cons (nat_lit 18, o9 P) (
  List.cons (nat_lit 20, o11 P) (
  List.cons (nat_lit 21, o12 P) (
  List.cons (nat_lit 22, o13 P) (
  List.cons (nat_lit 29, o20 P) (
  List.cons (nat_lit 31, o22 P) (
  List.cons (nat_lit 32, o23 P) (
  List.cons (nat_lit 34, o25 P) (
  List.cons (nat_lit 35, o26 P) (
  List.cons (nat_lit 36, o27 P) (
  List.cons (nat_lit 37, o28 P) (
  List.cons (nat_lit 38, o251 P) (
  List.cons (nat_lit 39, o30 P) (
  List.cons (nat_lit 42, o33 P) (
  List.cons (nat_lit 49, o40 P) (
  List.cons (nat_lit 51, o42 P) (
  List.cons (nat_lit 52, o43 P) (
  List.cons (nat_lit 54, o45 P) (
  List.cons (nat_lit 55, o46 P) (
  List.cons (nat_lit 56, o47 P) (
  List.cons (nat_lit 57, o48 P) (
  List.cons (nat_lit 58, o49 P) (
  List.cons (nat_lit 61, o52 P) (
  List.cons (nat_lit 68, o59 P) (
  List.cons (nat_lit 70, o61 P) (
  List.cons (nat_lit 71, o62 P) (
  List.cons (nat_lit 73, o64 P) (
  List.cons (nat_lit 74, o65 P) (
  List.cons (nat_lit 75, o66 P) (
  List.cons (nat_lit 76, o67 P) (
  List.cons (nat_lit 77, o68 P) (
  List.cons (nat_lit 80, o71 P) (
  List.cons (nat_lit 87, o78 P) (
  List.cons (nat_lit 89, o80 P) (
  List.cons (nat_lit 90, o81 P) (
  List.cons (nat_lit 92, o83 P) (
  List.cons (nat_lit 93, o84 P) (
  List.cons (nat_lit 94, o85 P) (
  List.cons (nat_lit 95, o86 P) (
  List.cons (nat_lit 96, o87 P) (
  List.cons (nat_lit 99, o93 P) (
  List.cons (nat_lit 106, o100 P) (
  List.cons (nat_lit 108, o102 P) (
  List.cons (nat_lit 109, o103 P) (
  List.cons (nat_lit 111, o105 P) (
  List.cons (nat_lit 112, o106 P) (
  List.cons (nat_lit 113, o107 P) (
  List.cons (nat_lit 114, o108 P) (
  List.cons (nat_lit 115, o109 P) (
  List.cons (nat_lit 118, o112 P) (
  List.cons (nat_lit 125, o119 P) (
  List.cons (nat_lit 127, o121 P) (
  List.cons (nat_lit 128, o122 P) (
  List.cons (nat_lit 130, o124 P) (
  List.cons (nat_lit 131, o125 P) (
  List.cons (nat_lit 132, o126 P) (
  List.cons (nat_lit 133, o127 P) (
  List.cons (nat_lit 134, o128 P) (
  List.cons (nat_lit 137, o131 P) (
  List.cons (nat_lit 144, o138 P) (
  List.cons (nat_lit 146, o140 P) (
  List.cons (nat_lit 147, o141 P) (
  List.cons (nat_lit 149, o143 P) (
  List.cons (nat_lit 150, o144 P) (
  List.cons (nat_lit 151, o145 P) (
  List.cons (nat_lit 152, o146 P) (
  List.cons (nat_lit 153, o147 P) (
  List.cons (nat_lit 156, o150 P) (
  List.cons (nat_lit 163, o157 P) (
  List.cons (nat_lit 165, o159 P) (
  List.cons (nat_lit 166, o160 P) (
  List.cons (nat_lit 168, o162 P) (
  List.cons (nat_lit 169, o163 P) (
  List.cons (nat_lit 170, o164 P) (
  List.cons (nat_lit 171, o165 P) (
  List.cons (nat_lit 172, o166 P) (
  List.cons (nat_lit 175, o172 P) (
  List.cons (nat_lit 182, o179 P) (
  List.cons (nat_lit 184, o181 P) (
  List.cons (nat_lit 185, o182 P) (
  List.cons (nat_lit 187, o184 P) (
  List.cons (nat_lit 188, o185 P) (
  List.cons (nat_lit 189, o186 P) (
  List.cons (nat_lit 190, o187 P) (
  List.cons (nat_lit 191, o188 P) (
  List.cons (nat_lit 194, o191 P) (
  List.cons (nat_lit 201, o198 P) (
  List.cons (nat_lit 203, o200 P) (
  List.cons (nat_lit 204, o201 P) (
  List.cons (nat_lit 206, o203 P) (
  List.cons (nat_lit 207, o204 P) (
  List.cons (nat_lit 208, o205 P) (
  List.cons (nat_lit 209, o206 P) (
  List.cons (nat_lit 210, o207 P) (
  List.cons (nat_lit 213, o210 P) (
  List.cons (nat_lit 220, o217 P) (
  List.cons (nat_lit 222, o219 P) (
  List.cons (nat_lit 223, o220 P) (
  List.cons (nat_lit 225, o222 P) (
  List.cons (nat_lit 226, o223 P) (
  List.cons (nat_lit 227, o224 P) (
  List.cons (nat_lit 228, o225 P) (
  List.cons (nat_lit 229, o226 P) (
  List.cons (nat_lit 232, o229 P) (
  List.cons (nat_lit 239, o236 P) (
  List.cons (nat_lit 241, o238 P) (
  List.cons (nat_lit 242, o239 P) (
  List.cons (nat_lit 244, o241 P) (
  List.cons (nat_lit 245, o242 P) (
  List.cons (nat_lit 246, o243 P) (
  List.cons (nat_lit 247, o244 P) (
  List.cons (nat_lit 248, o245 P) (
  List.cons (nat_lit 251, o252 P) (
  List.cons (nat_lit 258, o259 P) (
  List.cons (nat_lit 260, o261 P) (
  List.cons (nat_lit 261, o262 P) (
  List.cons (nat_lit 263, o264 P) (
  List.cons (nat_lit 264, o265 P) (
  List.cons (nat_lit 265, o266 P) (
  List.cons (nat_lit 266, o267 P) (
  List.cons (nat_lit 267, o268 P) (
  List.cons (nat_lit 270, o271 P) (
  List.cons (nat_lit 277, o278 P) (
  List.cons (nat_lit 279, o280 P) (
  List.cons (nat_lit 280, o281 P) (
  List.cons (nat_lit 282, o283 P) (
  List.cons (nat_lit 283, o284 P) (
  List.cons (nat_lit 284, o285 P) (
  List.cons (nat_lit 285, o286 P) (
  List.cons (nat_lit 286, o287 P) (
  List.cons (nat_lit 287, o288 P) (
  List.cons (nat_lit 290, o291 P) (
  List.cons (nat_lit 297, o298 P) (
  List.cons (nat_lit 299, o300 P) (
  List.cons (nat_lit 300, o301 P) (
  List.cons (nat_lit 302, o303 P) (
  List.cons (nat_lit 303, o304 P) (
  List.cons (nat_lit 304, o305 P) (
  List.cons (nat_lit 305, o306 P) (
  List.cons (nat_lit 306, o307 P) (
  List.cons (nat_lit 307, o308 P) (
  List.cons (nat_lit 310, o311 P) (
  List.cons (nat_lit 312, o313 P) (
  List.cons (nat_lit 313, o314 P) (
  List.cons (nat_lit 315, o316 P) (
  List.cons (nat_lit 316, o317 P) (
  List.cons (nat_lit 317, o318 P) (
  List.cons (nat_lit 319, o320 P) (
  List.cons (nat_lit 320, o321 P) (
  List.cons (nat_lit 322, o323 P) (
  List.cons (nat_lit 323, o324 P) (
  List.cons (nat_lit 324, o325 P) (
  List.cons (nat_lit 327, o328 P) (
  List.cons (nat_lit 328, o329 P) (
  List.cons (nat_lit 329, o330 P) (
  List.cons (nat_lit 332, o333 P) (
  List.cons (nat_lit 333, o334 P) (
  List.cons (nat_lit 334, o335 P) (
  List.cons (nat_lit 336, o337 P) (
  List.cons (nat_lit 337, o338 P) (
  List.cons (nat_lit 339, o340 P) (
  List.cons (nat_lit 340, o341 P) (
  List.cons (nat_lit 341, o342 P) (
  List.cons (nat_lit 343, o344 P) (
  List.cons (nat_lit 344, o345 P) (
  List.cons (nat_lit 346, o347 P) (
  List.cons (nat_lit 347, o348 P) (
  List.cons (nat_lit 348, o349 P) (
  List.cons (nat_lit 350, o351 P) (
  List.cons (nat_lit 351, o352 P) (
  List.cons (nat_lit 353, o354 P) (
  List.cons (nat_lit 354, o355 P) (
  List.cons (nat_lit 355, o356 P) (
  List.cons (nat_lit 357, o358 P) (
  List.cons (nat_lit 358, o359 P) (
  List.cons (nat_lit 360, o361 P) (
  List.cons (nat_lit 361, o362 P) (
  List.cons (nat_lit 362, o363 P) (
  List.cons (nat_lit 364, o365 P) (
  List.cons (nat_lit 365, o366 P) (
  List.cons (nat_lit 367, o368 P) (
  List.cons (nat_lit 368, o369 P) (
  List.cons (nat_lit 369, o370 P) (
  List.cons (nat_lit 372, o373 P) (
  List.cons (nat_lit 373, o374 P) (
  List.cons (nat_lit 374, o377 P) (
  List.cons (nat_lit 376, o379 P) (
  List.cons (nat_lit 377, o380 P) (
  List.cons (nat_lit 379, o382 P) (
  List.cons (nat_lit 380, o383 P) (
  List.cons (nat_lit 381, o384 P) (
  List.cons (nat_lit 384, o387 P) (
  List.cons (nat_lit 385, o388 P) (
  List.cons (nat_lit 386, o389 P) (
  List.cons (nat_lit 388, o391 P) (
  List.cons (nat_lit 389, o392 P) (
  List.cons (nat_lit 391, o394 P) (
  List.cons (nat_lit 392, o395 P) (
  List.cons (nat_lit 393, o396 P) (
  List.cons (nat_lit 395, o398 P) (
  List.cons (nat_lit 396, o399 P) (
  List.cons (nat_lit 398, o401 P) (
  List.cons (nat_lit 399, o402 P) (
  List.cons (nat_lit 407, o410 P) (
  List.cons (nat_lit 408, o411 P) (
  List.cons (nat_lit 409, o412 P) (
  List.cons (nat_lit 411, o414 P) (
  List.cons (nat_lit 412, o415 P) (
  List.cons (nat_lit 414, o417 P) (
  List.cons (nat_lit 415, o418 P) (
  List.cons (nat_lit 416, o419 P) (
  List.cons (nat_lit 418, o421 P) (
  List.cons (nat_lit 419, o422 P) (
  List.cons (nat_lit 421, o424 P) (
  List.cons (nat_lit 422, o425 P) (
  List.cons (nat_lit 423, o426 P) (
  List.cons (nat_lit 425, o428 P) (
  List.cons (nat_lit 426, o429 P) (
  List.cons (nat_lit 428, o431 P) (
  List.cons (nat_lit 429, o432 P) (
  List.cons (nat_lit 430, o433 P) (
  List.cons (nat_lit 432, o435 P) (
  List.cons (nat_lit 433, o436 P) (
  List.cons (nat_lit 435, o438 P) (
  List.cons (nat_lit 436, o439 P) (
  List.cons (nat_lit 437, o440 P) (
  List.cons (nat_lit 439, o442 P) (
  List.cons (nat_lit 440, o443 P) (
  List.cons (nat_lit 442, o445 P) (
  List.cons (nat_lit 443, o446 P) (
  List.cons (nat_lit 444, o447 P) (
  List.cons (nat_lit 447, o450 P) (
  List.cons (nat_lit 448, o451 P) (
  List.cons (nat_lit 449, o452 P) (
  List.cons (nat_lit 452, o455 P) (
  List.cons (nat_lit 453, o456 P) (
  List.cons (nat_lit 454, o457 P) (
  List.cons (nat_lit 457, o460 P) (
  List.cons (nat_lit 458, o461 P) (
  List.cons (nat_lit 459, o462 P) (
  List.cons (nat_lit 461, o464 P) (
  List.cons (nat_lit 462, o465 P) (
  List.cons (nat_lit 464, o467 P) (
  List.cons (nat_lit 465, o468 P) (
  List.cons (nat_lit 466, o469 P) (
  List.cons (nat_lit 468, o471 P) (
  List.cons (nat_lit 469, o472 P) (
  List.cons (nat_lit 471, o474 P) (
  List.cons (nat_lit 472, o475 P) (
  List.cons (nat_lit 473, o476 P) (
  List.cons (nat_lit 475, o478 P) (
  List.cons (nat_lit 476, o479 P) (
  List.cons (nat_lit 478, o481 P) (
  List.cons (nat_lit 479, o482 P) (
  List.cons (nat_lit 480, o483 P) (
  List.cons (nat_lit 482, o485 P) (
  List.cons (nat_lit 483, o486 P) (
  List.cons (nat_lit 485, o488 P) (
  List.cons (nat_lit 486, o489 P) (
  List.cons (nat_lit 487, o490 P) (
  List.cons (nat_lit 489, o492 P) (
  List.cons (nat_lit 490, o493 P) (
  List.cons (nat_lit 492, o495 P) (
  List.cons (nat_lit 493, o496 P) (
  List.cons (nat_lit 494, o497 P) (
  List.cons (nat_lit 496, o499 P) (
  List.cons (nat_lit 497, o500 P) (
  List.cons (nat_lit 499, o502 P) (
  List.cons (nat_lit 500, o503 P) (
  List.cons (nat_lit 501, o504 P) (
  List.cons (nat_lit 503, o506 P) (
  List.cons (nat_lit 504, o507 P) (
  List.cons (nat_lit 506, o509 P) (
  List.cons (nat_lit 507, o510 P) (
  List.cons (nat_lit 508, o511 P) (
  List.cons (nat_lit 510, o513 P) (
  List.cons (nat_lit 511, o514 P) (
  List.cons (nat_lit 513, o516 P) (
  List.cons (nat_lit 514, o517 P) (
  List.cons (nat_lit 515, o518 P) (
  List.cons (nat_lit 516, o519 P) (
  List.cons (nat_lit 517, o520 P) (
  List.cons (nat_lit 518, o521 P) (
  List.cons (nat_lit 519, o522 P) (
  List.cons (nat_lit 522, o525 P) (
  List.cons (nat_lit 524, o527 P) (
  List.cons (nat_lit 525, o528 P) (
  List.cons (nat_lit 527, o530 P) (
  List.cons (nat_lit 528, o531 P) (
  List.cons (nat_lit 529, o532 P) (
  List.cons (nat_lit 531, o534 P) (
  List.cons (nat_lit 532, o535 P) (
  List.cons (nat_lit 534, o537 P) (
  List.cons (nat_lit 535, o538 P) (
  List.cons (nat_lit 536, o539 P) (
  List.cons (nat_lit 539, o542 P) (
  List.cons (nat_lit 540, o543 P) (
  List.cons (nat_lit 541, o544 P) (
  List.cons (nat_lit 544, o547 P) (
  List.cons (nat_lit 545, o548 P) (
  List.cons (nat_lit 546, o549 P) (
  List.cons (nat_lit 548, o551 P) (
  List.cons (nat_lit 549, o552 P) (
  List.cons (nat_lit 551, o554 P) (
  List.cons (nat_lit 552, o555 P) (
  List.cons (nat_lit 553, o558 P) (
  List.cons (nat_lit 555, o560 P) (
  List.cons (nat_lit 556, o561 P) (
  List.cons (nat_lit 558, o563 P) (
  List.cons (nat_lit 559, o564 P) (
  List.cons (nat_lit 560, o565 P) (
  List.cons (nat_lit 563, o568 P) (
  List.cons (nat_lit 564, o569 P) (
  List.cons (nat_lit 565, o570 P) (
  List.cons (nat_lit 567, o572 P) (
  List.cons (nat_lit 568, o573 P) (
  List.cons (nat_lit 570, o575 P) (
  List.cons (nat_lit 571, o576 P) (
  List.cons (nat_lit 572, o577 P) (
  List.cons (nat_lit 574, o579 P) (
  List.cons (nat_lit 575, o580 P) (
  List.cons (nat_lit 577, o582 P) (
  List.cons (nat_lit 578, o583 P) (
  List.cons (nat_lit 579, o584 P) (
  List.cons (nat_lit 581, o586 P) (
  List.cons (nat_lit 582, o587 P) (
  List.cons (nat_lit 584, o589 P) (
  List.cons (nat_lit 585, o590 P) (
  List.cons (nat_lit 586, o591 P) (
  List.cons (nat_lit 588, o593 P) (
  List.cons (nat_lit 589, o594 P) (
  List.cons (nat_lit 591, o596 P) (
  List.cons (nat_lit 592, o597 P) (
  List.cons (nat_lit 593, o598 P) (
  List.cons (nat_lit 595, o600 P) (
  List.cons (nat_lit 596, o601 P) (
  List.cons (nat_lit 598, o603 P) (
  List.cons (nat_lit 599, o604 P) (
  List.cons (nat_lit 600, o605 P) (
  List.cons (nat_lit 602, o607 P) (
  List.cons (nat_lit 603, o608 P) (
  List.cons (nat_lit 605, o610 P) (
  List.cons (nat_lit 606, o611 P) (
  List.cons (nat_lit 607, o612 P) (
  List.cons (nat_lit 610, o615 P) (
  List.cons (nat_lit 611, o616 P) (
  List.cons (nat_lit 612, o617 P) (
  List.cons (nat_lit 614, o619 P) (
  List.cons (nat_lit 615, o620 P) (
  List.cons (nat_lit 617, o622 P) (
  List.cons (nat_lit 618, o623 P) (
  List.cons (nat_lit 619, o624 P) (
  List.cons (nat_lit 622, o627 P) (
  List.cons (nat_lit 623, o628 P) (
  List.cons (nat_lit 624, o629 P) (
  List.cons (nat_lit 626, o631 P) (
  List.cons (nat_lit 627, o632 P) (
  List.cons (nat_lit 629, o634 P) (
  List.cons (nat_lit 630, o635 P) (
  List.cons (nat_lit 631, o636 P) (
  List.cons (nat_lit 633, o638 P) (
  List.cons (nat_lit 634, o639 P) (
  List.cons (nat_lit 636, o641 P) (
  List.cons (nat_lit 637, o642 P) (
  List.cons (nat_lit 638, o643 P) (
  List.cons (nat_lit 640, o645 P) (
  List.cons (nat_lit 641, o646 P) (
  List.cons (nat_lit 643, o648 P) (
  List.cons (nat_lit 644, o649 P) (
  List.cons (nat_lit 645, o650 P) (
  List.cons (nat_lit 647, o652 P) (
  List.cons (nat_lit 648, o653 P) (
  List.cons (nat_lit 650, o655 P) (
  List.cons (nat_lit 651, o656 P) (
  List.cons (nat_lit 652, o657 P) (
  List.cons (nat_lit 655, o660 P) (
  List.cons (nat_lit 656, o661 P) (
  List.cons (nat_lit 657, o662 P) (
  List.cons (nat_lit 659, o664 P) (
  List.cons (nat_lit 660, o665 P) (
  List.cons (nat_lit 662, o667 P) (
  List.cons (nat_lit 663, o668 P) (
  List.cons (nat_lit 664, o669 P) (
  List.cons (nat_lit 667, o672 P) (
  List.cons (nat_lit 668, o673 P) (
  List.cons (nat_lit 669, o674 P) (
  List.cons (nat_lit 671, o676 P) (
  List.cons (nat_lit 672, o677 P) (
  List.cons (nat_lit 674, o679 P) (
  List.cons (nat_lit 675, o680 P) (
  List.cons (nat_lit 676, o681 P) (
  List.cons (nat_lit 678, o683 P) (
  List.cons (nat_lit 679, o684 P) (
  List.cons (nat_lit 681, o686 P) (
  List.cons (nat_lit 682, o687 P) (
  List.cons (nat_lit 683, o688 P) (
  List.cons (nat_lit 686, o691 P) (
  List.cons (nat_lit 687, o692 P) (
  List.cons (nat_lit 688, o693 P) (
  List.cons (nat_lit 690, o695 P) (
  List.cons (nat_lit 691, o696 P) (
  List.cons (nat_lit 693, o698 P) (
  List.cons (nat_lit 694, o699 P) (
  List.cons (nat_lit 695, o700 P) (
  List.cons (nat_lit 697, o702 P) (
  List.cons (nat_lit 698, o703 P) (
  List.cons (nat_lit 700, o705 P) (
  List.cons (nat_lit 701, o706 P) (
  List.cons (nat_lit 709, o716 P) (
  List.cons (nat_lit 711, o718 P) (
  List.cons (nat_lit 712, o719 P) (
  List.cons (nat_lit 714, o721 P) (
  List.cons (nat_lit 715, o722 P) (
  List.cons (nat_lit 716, o723 P) (
  List.cons (nat_lit 718, o725 P) (
  List.cons (nat_lit 719, o726 P) (
  List.cons (nat_lit 721, o728 P) (
  List.cons (nat_lit 722, o729 P) (
  List.cons (nat_lit 723, o730 P) (
  List.cons (nat_lit 725, o732 P) (
  List.cons (nat_lit 726, o733 P) (
  List.cons (nat_lit 728, o735 P) (
  List.cons (nat_lit 729, o736 P) (
  List.cons (nat_lit 730, o737 P) (
  List.cons (nat_lit 732, o739 P) (
  List.cons (nat_lit 733, o740 P) (
  List.cons (nat_lit 735, o742 P) (
  List.cons (nat_lit 736, o743 P) (
  List.cons (nat_lit 737, o744 P) (
  List.cons (nat_lit 739, o746 P) (
  List.cons (nat_lit 740, o747 P) (
  List.cons (nat_lit 742, o749 P) (
  List.cons (nat_lit 743, o750 P) (
  List.cons (nat_lit 744, o751 P) (
  List.cons (nat_lit 746, o753 P) (
  List.cons (nat_lit 747, o754 P) (
  List.cons (nat_lit 749, o756 P) (
  List.cons (nat_lit 750, o757 P) (
  List.cons (nat_lit 751, o758 P) (
  List.cons (nat_lit 754, o761 P) (
  List.cons (nat_lit 755, o762 P) (
  List.cons (nat_lit 756, o763 P) (
  List.cons (nat_lit 758, o765 P) (
  List.cons (nat_lit 759, o766 P) (
  List.cons (nat_lit 761, o768 P) (
  List.cons (nat_lit 762, o769 P) (
  List.cons (nat_lit 763, o770 P) (
  List.cons (nat_lit 765, o772 P) (
  List.cons (nat_lit 766, o773 P) (
  List.cons (nat_lit 768, o775 P) (
  List.cons (nat_lit 769, o776 P) (
  List.cons (nat_lit 770, o777 P) (
  List.cons (nat_lit 772, o779 P) (
  List.cons (nat_lit 773, o780 P) (
  List.cons (nat_lit 775, o782 P) (
  List.cons (nat_lit 776, o783 P) (
  List.cons (nat_lit 777, o784 P) (
  List.cons (nat_lit 779, o786 P) (
  List.cons (nat_lit 780, o787 P) (
  List.cons (nat_lit 782, o789 P) (
  List.cons (nat_lit 783, o790 P) (
  List.cons (nat_lit 784, o791 P) (
  List.cons (nat_lit 785, o792 P) (
  List.cons (nat_lit 786, o793 P) (
  List.cons (nat_lit 787, o794 P) (
  List.cons (nat_lit 788, o795 P) (
  List.cons (nat_lit 791, o798 P) (
  List.cons (nat_lit 794, o801 P) (
  List.cons (nat_lit 795, o802 P) (
  List.cons (nat_lit 796, o803 P) (
  List.cons (nat_lit 798, o805 P) (
  List.cons (nat_lit 799, o806 P) (
  List.cons (nat_lit 801, o808 P) (
  List.cons (nat_lit 802, o809 P) (
  List.cons (nat_lit 803, o810 P) (
  List.cons (nat_lit 805, o812 P) (
  List.cons (nat_lit 806, o813 P) (
  List.cons (nat_lit 808, o815 P) (
  List.cons (nat_lit 809, o816 P) (
  List.cons (nat_lit 810, o817 P) (
  List.cons (nat_lit 813, o820 P) (
  List.cons (nat_lit 814, o821 P) (
  List.cons (nat_lit 815, o822 P) (
  List.cons (nat_lit 817, o824 P) (
  List.cons (nat_lit 818, o825 P) (
  List.cons (nat_lit 820, o827 P) (
  List.cons (nat_lit 821, o828 P) (
  List.cons (nat_lit 822, o829 P) (
  List.cons (nat_lit 825, o832 P) (
  List.cons (nat_lit 826, o833 P) (
  List.cons (nat_lit 827, o834 P) (
  List.cons (nat_lit 829, o836 P) (
  List.cons (nat_lit 830, o837 P) (
  List.cons (nat_lit 832, o839 P) (
  List.cons (nat_lit 833, o840 P) (
  List.cons (nat_lit 834, o841 P) (
  List.cons (nat_lit 837, o844 P) (
  List.cons (nat_lit 838, o845 P) (
  List.cons (nat_lit 839, o846 P) (
  List.cons (nat_lit 841, o848 P) (
  List.cons (nat_lit 842, o849 P) (
  List.cons (nat_lit 844, o851 P) (
  List.cons (nat_lit 845, o852 P) (
  List.cons (nat_lit 846, o853 P) (
  List.cons (nat_lit 848, o855 P) (
  List.cons (nat_lit 849, o856 P) (
  List.cons (nat_lit 851, o858 P) (
  List.cons (nat_lit 852, o859 P) (
  List.cons (nat_lit 853, o860 P) (
  List.cons (nat_lit 855, o862 P) (
  List.cons (nat_lit 856, o863 P) (
  List.cons (nat_lit 858, o865 P) (
  List.cons (nat_lit 859, o866 P) (
  List.cons (nat_lit 860, o867 P) (
  List.cons (nat_lit 863, o870 P) (
  List.cons (nat_lit 864, o871 P) (
  List.cons (nat_lit 865, o872 P) (
  List.cons (nat_lit 867, o874 P) (
  List.cons (nat_lit 868, o875 P) (
  List.cons (nat_lit 870, o877 P) (
  List.cons (nat_lit 871, o878 P) (
  List.cons (nat_lit 872, o879 P) (
  List.cons (nat_lit 874, o881 P) (
  List.cons (nat_lit 875, o882 P) (
  List.cons (nat_lit 877, o884 P) (
  List.cons (nat_lit 878, o885 P) (
  List.cons (nat_lit 879, o888 P) (
  List.cons (nat_lit 881, o890 P) (
  List.cons (nat_lit 882, o891 P) (
  List.cons (nat_lit 884, o893 P) (
  List.cons (nat_lit 885, o894 P) (
  List.cons (nat_lit 886, o895 P) (
  List.cons (nat_lit 889, o898 P) (
  List.cons (nat_lit 890, o899 P) (
  List.cons (nat_lit 891, o900 P) (
  List.cons (nat_lit 894, o903 P) (
  List.cons (nat_lit 895, o904 P) (
  List.cons (nat_lit 896, o905 P) (
  List.cons (nat_lit 898, o907 P) (
  List.cons (nat_lit 899, o908 P) (
  List.cons (nat_lit 901, o910 P) (
  List.cons (nat_lit 902, o911 P) (
  List.cons (nat_lit 903, o912 P) (
  List.cons (nat_lit 906, o915 P) (
  List.cons (nat_lit 907, o916 P) (
  List.cons (nat_lit 908, o917 P) (
  List.cons (nat_lit 911, o920 P) (
  List.cons (nat_lit 912, o921 P) (
  List.cons (nat_lit 913, o922 P) (
  List.cons (nat_lit 915, o924 P) (
  List.cons (nat_lit 916, o925 P) (
  List.cons (nat_lit 918, o927 P) (
  List.cons (nat_lit 919, o928 P) (
  List.cons (nat_lit 920, o929 P) (
  List.cons (nat_lit 923, o932 P) (
  List.cons (nat_lit 924, o933 P) (
  List.cons (nat_lit 925, o934 P) (
  List.cons (nat_lit 928, o937 P) (
  List.cons (nat_lit 929, o938 P) (
  List.cons (nat_lit 930, o939 P) (
  List.cons (nat_lit 933, o942 P) (
  List.cons (nat_lit 934, o943 P) (
  List.cons (nat_lit 935, o944 P) (
  List.cons (nat_lit 937, o946 P) (
  List.cons (nat_lit 938, o947 P) (
  List.cons (nat_lit 940, o949 P) (
  List.cons (nat_lit 941, o950 P) (
  List.cons (nat_lit 942, o951 P) (
  List.cons (nat_lit 944, o953 P) (
  List.cons (nat_lit 945, o954 P) (
  List.cons (nat_lit 947, o956 P) (
  List.cons (nat_lit 948, o957 P) (
  List.cons (nat_lit 949, o958 P) (
  List.cons (nat_lit 952, o961 P) (
  List.cons (nat_lit 953, o962 P) (
  List.cons (nat_lit 954, o963 P) (
  List.cons (nat_lit 957, o966 P) (
  List.cons (nat_lit 958, o967 P) (
  List.nil))))))))))))))))))))))))))))))))))))))))))))))))))))))))))))))))))))))))))))))))))))))))))))))))))))))))))))))))))))))))))))))))))))))))))))))))))))))))))))))))))))))))))))))))))))))))))))))))))))))))))))))))))))))))))))))))))))))))))))))))))))))))))))))))))))))))))))))))))))))))))))))))))))))))))))))))))))))))))))))))))))))))))))))))))))))))))))))))))))))))))))))))))))))))))))))))))))))))))))))))))))))))))))))))))))))))))))))))))))))))))))))))))))))))))))))))))))))))))))))))))))))))))))))))))))))))))))))))))))))))))))))))))))))))))))))))))))))))))))))))))))))))))))))))))))))
def KA : List Addr := [2, 3, 15, 17, 18, 20, 21, 22, 29, 31, 32, 34, 35, 36, 37, 38, 39, 42, 49, 51, 52, 54, 55, 56, 57, 58, 61, 68, 70, 71, 73, 74, 75, 76, 77, 80, 87, 89, 90, 92, 93, 94, 95, 96, 99, 106, 108, 109, 111, 112, 113, 114, 115, 118, 125, 127, 128, 130, 131, 132, 133, 134, 137, 144, 146, 147, 149, 150, 151, 152, 153, 156, 163, 165, 166, 168, 169, 170, 171, 172, 175, 182, 184, 185, 187, 188, 189, 190, 191, 194, 201, 203, 204, 206, 207, 208, 209, 210, 213, 220, 222, 223, 225, 226, 227, 228, 229, 232, 239, 241, 242, 244, 245, 246, 247, 248, 251, 258, 260, 261, 263, 264, 265, 266, 267, 270, 277, 279, 280, 282, 283, 284, 285, 286, 287, 290, 297, 299, 300, 302, 303, 304, 305, 306, 307, 310, 312, 313, 315, 316, 317, 319, 320, 322, 323, 324, 327, 328, 329, 332, 333, 334, 336, 337, 339, 340, 341, 343, 344, 346, 347, 348, 350, 351, 353, 354, 355, 357, 358, 360, 361, 362, 364, 365, 367, 368, 369, 372, 373, 374, 376, 377, 379, 380, 381, 384, 385, 386, 388, 389, 391, 392, 393, 395, 396, 398, 399, 407, 408, 409, 411, 412, 414, 415, 416, 418, 419, 421, 422, 423, 425, 426, 428, 429, 430, 432, 433, 435, 436, 437, 439, 440, 442, 443, 444, 447, 448, 449, 452, 453, 454, 457, 458, 459, 461, 462, 464, 465, 466, 468, 469, 471, 472, 473, 475, 476, 478, 479, 480, 482, 483, 485, 486, 487, 489, 490, 492, 493, 494, 496, 497, 499, 500, 501, 503, 504, 506, 507, 508, 510, 511, 513, 514, 515, 516, 517, 518, 519, 522, 524, 525, 527, 528, 529, 531, 532, 534, 535, 536, 539, 540, 541, 544, 545, 546, 548, 549, 551, 552, 553, 555, 556, 558, 559, 560, 563, 564, 565, 567, 568, 570, 571, 572, 574, 575, 577, 578, 579, 581, 582, 584, 585, 586, 588, 589, 591, 592, 593, 595, 596, 598, 599, 600, 602, 603, 605, 606, 607, 610, 611, 612, 614, 615, 617, 618, 619, 622, 623, 624, 626, 627, 629, 630, 631, 633, 634, 636, 637, 638, 640, 641, 643, 644, 645, 647, 648, 650, 651, 652, 655, 656, 657, 659, 660, 662, 663, 664, 667, 668, 669, 671, 672, 674, 675, 676, 678, 679, 681, 682, 683, 686, 687, 688, 690, 691, 693, 694, 695, 697, 698, 700, 701, 709, 711, 712, 714, 715, 716, 718, 719, 721, 722, 723, 725, 726, 728, 729, 730, 732, 733, 735, 736, 737, 739, 740, 742, 743, 744, 746, 747, 749, 750, 751, 754, 755, 756, 758, 759, 761, 762, 763, 765, 766, 768, 769, 770, 772, 773, 775, 776, 777, 779, 780, 782, 783, 784, 785, 786, 787, 788, 791, 794, 795, 796, 798, 799, 801, 802, 803, 805, 806, 808, 809, 810, 813, 814, 815, 817, 818, 820, 821, 822, 825, 826, 827, 829, 830, 832, 833, 834, 837, 838, 839, 841, 842, 844, 845, 846, 848, 849, 851, 852, 853, 855, 856, 858, 859, 860, 863, 864, 865, 867, 868, 870, 871, 872, 874, 875, 877, 878, 879, 881, 882, 884, 885, 886, 889, 890, 891, 894, 895, 896, 898, 899, 901, 902, 903, 906, 907, 908, 911, 912, 913, 915, 916, 918, 919, 920, 923, 924, 925, 928, 929, 930, 933, 934, 935, 937, 938, 940, 941, 942, 944, 945, 947, 948, 949, 952, 953, 954, 957, 958]
abbrev qv : Program := view pw [0, 2, 3, 4, 5, 6, 7, 8, 9, 10, 11, 12, 13, 14, 15, 16, 18, 19, 20, 21, 22, 23, 24, 25, 26, 27, 28, 29, 30, 31, 32, 33, 35, 36, 37, 38, 39, 41, 42, 43, 44, 45, 46, 47, 48, 49, 50, 52, 54, 55, 56, 57, 58, 59, 60, 61, 62, 63, 64, 65, 66, 67, 68, 70, 71, 72, 73, 74, 75, 76, 77, 79, 80, 81, 82, 83, 84, 85, 86, 87, 88, 89, 90, 91, 92, 93, 94, 95, 96, 97, 98]
def names : List PySem.Str := [(S "Hall")]
def env : Env := ⟨pw.main.scope, mainNs, mainNs, [], PySem.Str.empty, none, (.ref 13), some 14, 0⟩
def bod : List Stmt := behindTheImports pw
abbrev cE : Code := .body bod env
theorem r_a (w : World) (os : OsState) : goG (mq pw w) 11 (some (.ref 6)) 12 (stL w (boot_heap w.params).objs.toList boot_toks os) (topStub pw) = some ((stL w (objs_a w.params) 187 os), ⟨denQ tabQ cE, cE, ⟨0, 0, 0, 0⟩, [topFrame ⟨0, 0, 0, 0⟩]⟩) := by kernel_rfl
theorem r_b (w : World) (os : OsState) : goS (mq pw w) 11 (some (.ref 6)) 1 (stL w (objs_a w.params) 187 os) (thB bod env cE ⟨0, 0, 0, 0⟩ ⟨0, 0, 0, 0⟩) = some (.next, (stL w (objs_b w.params) 187 os), cE, ⟨0, 0, 0, 0⟩) := by kernel_rfl
def l_0 : List Stmt := (pw.main.body.drop 0).take 6
theorem r_0 (w : World) (os : OsState) : goS (mq pw w) 11 (some (.ref 6)) 988 (stL w (objs_b w.params) 187 os) (thS l_0 env cE ⟨0, 0, 0, 0⟩ ⟨0, 0, 0, 0⟩) = some (.next, (stL w (objs_0 w.params) 294 os), cE, ⟨19, 0, 22, 43⟩) := by kernel_rfl
def l_1 : List Stmt := (pw.main.body.drop 6).take 4
theorem r_1 (w : World) (os : OsState) : goS (mq pw w) 11 (some (.ref 6)) 979 (stL w (objs_0 w.params) 294 os) (thS l_1 env cE ⟨19, 0, 22, 43⟩ ⟨0, 0, 0, 0⟩) = some (.next, (stL w (objs_1 w.params) 392 os), cE, ⟨38, 0, 41, 43⟩) := by kernel_rfl
def l_2 : List Stmt := (pw.main.body.drop 10).take 4
theorem r_2 (w : World) (os : OsState) : goS (mq pw w) 11 (some (.ref 6)) 977 (stL w (objs_1 w.params) 392 os) (thS l_2 env cE ⟨38, 0, 41, 43⟩ ⟨0, 0, 0, 0⟩) = some (.next, (stL w (objs_2 w.params) 488 os), cE, ⟨56, 0, 59, 45⟩) := by kernel_rfl
def l_3 : List Stmt := (pw.main.body.drop 14).take 15
theorem r_3 (w : World) (os : OsState) : goS (mq pw w) 11 (some (.ref 6)) 997 (stL w (objs_2 w.params) 488 os) (thS l_3 env cE ⟨56, 0, 59, 45⟩ ⟨0, 0, 0, 0⟩) = some (.next, (stL w (objs_3 w.params) 646 os), cE, ⟨104, 0, 109, 19⟩) := by kernel_rfl
def l_4 : List Stmt := (pw.main.body.drop 29).take 12
theorem r_4 (w : World) (os : OsState) : goS (mq pw w) 11 (some (.ref 6)) 989 (stL w (objs_3 w.params) 646 os) (thS l_4 env cE ⟨104, 0, 109, 19⟩ ⟨0, 0, 0, 0⟩) = some (.next, (stL w (objs_4 w.params) 873 os), cE, ⟨222, 0, 222, 8⟩) := by kernel_rfl
def l_5 : List Stmt := (pw.main.body.drop 41).take 25
theorem r_5 (w : World) (os : OsState) : goS (mq pw w) 11 (some (.ref 6)) 705 (stL w (objs_4 w.params) 873 os) (thS l_5 env cE ⟨222, 0, 222, 8⟩ ⟨0, 0, 0, 0⟩) = some (.next, (stL w (objs_5 w.params) 1069 os), cE, ⟨324, 0, 326, 25⟩) := by kernel_rfl
def l_6 : List Stmt := (pw.main.body.drop 66).take 19
theorem r_6 (w : World) (os : OsState) : goS (mq pw w) 11 (some (.ref 6)) 999 (stL w (objs_5 w.params) 1069 os) (thS l_6 env cE ⟨324, 0, 326, 25⟩ ⟨0, 0, 0, 0⟩) = some (.next, (stL w (objs_6 w.params) 1305 os), cE, ⟨454, 0, 460, 50⟩) := by kernel_rfl
def l_7 : List Stmt := (pw.main.body.drop 85).take 14
theorem r_7 (w : World) (os : OsState) : goS (mq pw w) 11 (some (.ref 6)) 393 (stL w (objs_6 w.params) 1305 os) (thS l_7 env cE ⟨454, 0, 460, 50⟩ ⟨0, 0, 0, 0⟩) = some (.next, (stL w (objs_7 w.params) 1407 os), cE, ⟨525, 0, 548, 77⟩) := by kernel_rfl
theorem r_f (w : World) (os : OsState) : goF (mq pw w) 11 (some (.ref 6)) 2 (stL w (objs_7 w.params) 1407 os) ⟨doneF .next, cE, ⟨525, 0, 548, 77⟩, [topFrame ⟨0, 0, 0, 0⟩]⟩ = some (stL w (objs_f w.params) 1407 os) := by kernel_rfl
theorem bod_is : bod = l_0 ++ (l_1 ++ (l_2 ++ (l_3 ++ (l_4 ++ (l_5 ++ (l_6 ++ (l_7 ++ ([])))))))) := by kernel_rfl
theorem run_all (w : World) (os : OsState) : topRun treeTable pw w 11 (some (.ref 6)) (12 + (1 + (988 + (979 + (977 + (997 + (989 + (705 + (999 + (393 + 2)))))))))) (stL w (boot_heap w.params).objs.toList boot_toks os).abs (topStub pw) = some (stL w (objs_f w.params) 1407 os).abs := by
  refine run_top (b := bod) (env := env) (r_a w os) (r_b w os) ?_
  have z := run_seg (r_0 w os) (run_seg (r_1 w os) (run_seg (r_2 w os) (run_seg (r_3 w os) (run_seg (r_4 w os) (run_seg (r_5 w os) (run_seg (r_6 w os) (run_seg (r_7 w os) (run_end (r_f w os)))))))))
  have e : restOf bod env cE ⟨0, 0, 0, 0⟩ [topFrame ⟨0, 0, 0, 0⟩] = restOf (l_0 ++ (l_1 ++ (l_2 ++ (l_3 ++ (l_4 ++ (l_5 ++ (l_6 ++ (l_7 ++ ([]))))))))) env cE ⟨0, 0, 0, 0⟩ [topFrame ⟨0, 0, 0, 0⟩] := congrArg (fun b => restOf b env cE ⟨0, 0, 0, 0⟩ [topFrame ⟨0, 0, 0, 0⟩]) bod_is
  rw [e]
  exact z
theorem ka_is (P : Params) : KA = (KF P).map (·.1) := by kernel_rfl
def KT : List Addr := [955]
abbrev hk : Hook := kmHook KF KA ka_is KT
def ob (S : SharedT) : hk.α := (KA.map (getT S), KT.map (getT S))
theorem ob_is (S : SharedT) : ob S = hk.obs S.abs := Prod.ext (obK S) (obK S)
theorem k_1 (w : World) (os : OsState) : looksF pw (boot_heap w.params) (stL w (objs_f w.params) 1407 os).abs = true := by kernel_rfl
theorem s_0 (w : World) (os : OsState) : (seenQ qv names (importedModules pw.main.body) (fun s => xlAt qv lv s && recOk (OpenLaw.row rw_).toRowW.records s) (stL w (objs_f w.params) 1407 os).abs).1 = expectedOf qv := by kernel_rfl
theorem s_1 (w : World) (os : OsState) : (seenQ qv names (importedModules pw.main.body) (fun s => xlAt qv lv s && recOk (OpenLaw.row rw_).toRowW.records s) (stL w (objs_f w.params) 1407 os).abs).2.1 = bltViewBooted := by kernel_rfl
theorem s_2 (w : World) (os : OsState) : (seenQ qv names (importedModules pw.main.body) (fun s => xlAt qv lv s && recOk (OpenLaw.row rw_).toRowW.records s) (stL w (objs_f w.params) 1407 os).abs).2.2.1 = true := by kernel_rfl
theorem s_3 (w : World) (os : OsState) : (seenQ qv names (importedModules pw.main.body) (fun s => xlAt qv lv s && recOk (OpenLaw.row rw_).toRowW.records s) (stL w (objs_f w.params) 1407 os).abs).2.2.2.1 = true := by kernel_rfl
theorem s_4 (w : World) (os : OsState) : (seenQ qv names (importedModules pw.main.body) (fun s => xlAt qv lv s && recOk (OpenLaw.row rw_).toRowW.records s) (stL w (objs_f w.params) 1407 os).abs).2.2.2.2.1 = pinGoodD (drecsOf qv) := by kernel_rfl
theorem s_5 (w : World) (os : OsState) : (seenQ qv names (importedModules pw.main.body) (fun s => xlAt qv lv s && recOk (OpenLaw.row rw_).toRowW.records s) (stL w (objs_f w.params) 1407 os).abs).2.2.2.2.2.1 = plainGoodE qv (looseW qv names) := by kernel_rfl
theorem s_6 (w : World) (os : OsState) : (seenQ qv names (importedModules pw.main.body) (fun s => xlAt qv lv s && recOk (OpenLaw.row rw_).toRowW.records s) (stL w (objs_f w.params) 1407 os).abs).2.2.2.2.2.2.1 = plainGoodD qv names := by kernel_rfl
theorem s_7 (w : World) (os : OsState) : (seenQ qv names (importedModules pw.main.body) (fun s => xlAt qv lv s && recOk (OpenLaw.row rw_).toRowW.records s) (stL w (objs_f w.params) 1407 os).abs).2.2.2.2.2.2.2.1 = wideGood qv := by kernel_rfl
theorem s_8 (w : World) (os : OsState) : (seenQ qv names (importedModules pw.main.body) (fun s => xlAt qv lv s && recOk (OpenLaw.row rw_).toRowW.records s) (stL w (objs_f w.params) 1407 os).abs).2.2.2.2.2.2.2.2 = clsGoodW qv names := by kernel_rfl
theorem k_3 (w : World) (os : OsState) : ob (stL w (objs_f w.params) 1407 os) = hk.val w := by kernel_rfl
theorem looks (w : World) (os : OsState) : (fun S : SharedT => (looksF pw (boot_heap w.params) S.abs, seenQ qv names (importedModules pw.main.body) (fun s => xlAt qv lv s && recOk (OpenLaw.row rw_).toRowW.records s) S.abs, ob S)) (stL w (objs_f w.params) 1407 os) = (true, openGood qv names, hk.val w) :=
  Prod.ext (k_1 w os) (Prod.ext (Prod.ext (s_0 w os) (Prod.ext (s_1 w os) (Prod.ext (s_2 w os) (Prod.ext (s_3 w os) (Prod.ext (s_4 w os) (Prod.ext (s_5 w os) (Prod.ext (s_6 w os) (Prod.ext (s_7 w os) (s_8 w os))))))))) (k_3 w os))
theorem left : LeftO pw qv names (fun s => xlAt qv lv s && recOk (OpenLaw.row rw_).toRowW.records s) hk.obs hk.val 7742 true :=
  left_cut (F := objs_f) (kF := 1407) (lo := 11) (an := (some (.ref 6))) (M := (12 + (1 + (988 + (979 + (977 + (997 + (989 + (705 + (999 + (393 + 2))))))))))) ob_is (by kernel_rfl) (by rfl) (fun s => by kernel_rfl) (by kernel_rfl) (fun w => by kernel_rfl) (fun w => by kernel_rfl) run_all (fun w os => looks w os)
end HX
end
open PySem PySem.W PyProof.Rows
set_option maxHeartbeats 0 in
theorem PySem.Challenge.cw_nearcall_k18_turns_refused_holds : PySem.Challenge.rw_nearcall_k18_turns_refused.Holds := by
  w_on; o_law
  refine holds_open (r := OpenLaw.row PySem.Challenge.rw_nearcall_k18_turns_refused) (q := HX.qv) (loose := HX.names)
    (Xt := fun s => xlAt HX.qv HX.lv s && recOk (OpenLaw.row PySem.Challenge.rw_nearcall_k18_turns_refused).toRowW.records s)
    (XP := XL HX.qv HX.lv) (Yf := (kmHook HX.KF HX.KA HX.ka_is HX.KT).obs) (Ya := (kmHook HX.KF HX.KA HX.ka_is HX.KT).val) (YP := (kmHook HX.KF HX.KA HX.ka_is HX.KT).says)
    (kwd := []) HX.left (kmHook HX.KF HX.KA HX.ka_is HX.KT).of (kmHook HX.KF HX.KA HX.ka_is HX.KT).keeps
    (fun s z => xl_of s (Bool.and_eq_true_iff.mp z).1) XL.keeps
    (by rfl) (by rfl) (by rfl)
    (fun s z => recFacts_of (Bool.and_eq_true_iff.mp z).2)
    (by rfl) (by first | assumption | decide +kernel) (by decide +kernel)
    ⟨rfl, rfl, rfl, rfl, rfl, by decide +kernel⟩ ?hw ?hc
  case hw => w_witness2
  k_fill
  refine LamX.walk_ofTs (l := PySem.Challenge.rw_nearcall_k18_turns_refused) (n := 63) (k := 13) (x := "_law_script") (CX := fun w => L2.CX0) rfl (by decide) rfl ⟨rfl, by decide, by decide⟩ (fun w h Y => PySem.W.km_in_of Y) ?F (fun _ _ _ _ _ h => h)
  case F =>
    intro w mg fa h Y KX G hmg
    refine' NC.all_mk (PT := 955) KX G hmg (PySem.W.km_tabs_of Y 955 (by k_mem)) ?nPT ?a_O ?l_O ?c_O ?k_O ?a_S ?l_S ?c_S ?k_S ?a_Y ?l_Y ?c_Y ?k_Y ?a_W ?l_W ?c_W ?k_W ?a_I ?l_I ?c_I ?k_I ?a_cw ?l_cw ?c_cw ?k_cw ?a_cb ?l_cb ?c_cb ?k_cb ?a_cs ?l_cs ?c_cs ?k_cs ?a_st ?l_st ?c_st ?k_st ?a_re ?l_re ?c_re ?k_re ?a_af ?l_af ?c_af ?k_af ?a_cf ?l_cf ?c_cf ?k_cf ?a_ca ?l_ca ?c_ca ?k_ca ?a_start ?l_start ?c_start ?k_start ?a_draw ?l_draw ?c_draw ?k_draw ?a_of ?l_of ?c_of ?k_of ?a_mixed ?l_mixed ?c_mixed ?k_mixed ?a_letters ?l_letters ?c_letters ?k_letters ?a_shuts ?l_shuts ?c_shuts ?k_shuts ?a_oth ?l_oth ?c_oth ?k_oth ?a_wit ?l_wit ?c_wit ?k_wit ?a_pairs ?l_pairs ?c_pairs ?k_pairs ?a_all ?l_all ?c_all ?k_all ?a_rms ?l_rms ?c_rms ?k_rms ?a_fine ?l_fine ?c_fine ?k_fine ?a_hall ?l_hall ?c_hall ?k_hall ?a_img ?l_img ?c_img ?k_img ?a_bys ?l_bys ?c_bys ?k_bys ?a_smt ?l_smt ?c_smt ?k_smt ?a_word ?l_word ?c_word ?k_word ?a_ref ?l_ref ?c_ref ?k_ref ?a_ist ?l_ist ?c_ist ?k_ist ?a_chk ?l_chk ?c_chk ?k_chk ?a_sh ?l_sh ?c_sh ?k_sh ?a_sc ?l_sc ?c_sc ?k_sc ?a_tu ?l_tu ?c_tu ?k_tu ?a_ov ?l_ov ?c_ov ?k_ov ?a_bh ?l_bh ?c_bh ?k_bh ?a_bk ?l_bk ?c_bk ?k_bk ?a_ro ?l_ro ?c_ro ?k_ro ?a_ot ?l_ot ?c_ot ?k_ot ?a_stt ?l_stt ?c_stt ?k_stt ?a_isP ?l_isP ?c_isP ?k_isP ?a_chP ?l_chP ?c_chP ?k_chP ?a_afb ?l_afb ?c_afb ?k_afb ?a_to ?l_to ?c_to ?k_to ?a_go ?l_go ?c_go ?k_go ?a_so ?l_so ?c_so ?k_so ?a_ke ?l_ke ?c_ke ?k_ke ?a_itn ?l_itn ?c_itn ?k_itn ?a_ct ?l_ct ?c_ct ?k_ct ?a_CH ?a_CB ?a_CF ?a_CA ?a_CT ?a_CR ?a_CM ?a_CN ?i_H ?r_H ?g_H ?v_V ?x_CB ?rv_CB ?sa_CB ?ex_CB ?ty_CB ?kc_CB ?i_CB ?t_CB ?n_CB_word ?n_CB_at ?x_CF ?rv_CF ?sa_CF ?ex_CF ?ty_CF ?kc_CF ?i_CF ?t_CF ?n_CF_word ?n_CF_side ?x_CA ?rv_CA ?sa_CA ?ex_CA ?ty_CA ?kc_CA ?i_CA ?t_CA ?n_CA_word ?n_CA_one ?n_CA_other ?x_CT ?rv_CT ?sa_CT ?ga_CT ?gg_CT ?hd_CT ?ex_CT ?ty_CT ?kc_CT ?i_CT ?t_CT ?n_CT_word ?x_CR ?rv_CR ?sa_CR ?ga_CR ?gg_CR ?hd_CR ?ex_CR ?ty_CR ?kc_CR ?i_CR ?t_CR ?n_CR_word ?l_iH ?c_iH ?k_iH ?l_iB ?c_iB ?k_iB ?l_iF ?c_iF ?k_iF ?l_iA ?c_iA ?k_iA ?l_iT ?c_iT ?k_iT ?l_iR ?c_iR ?k_iR ?e_CT_CH ?e_CT_CM ?e_CT_CN ?e_CR_CH ?e_CR_CM ?e_CR_CN ?ex_CH ?ty_CH ?ic_CH ?ex_CM ?ty_CM ?ic_CM ?ex_CN ?ty_CN ?ic_CN ?a_C ?i_C ?j_C ?pg_C ?hd_C ?po_C ?sa_C ?mk_C ?kp_C ?n1_C ?n2_C ?n3_C ?b_hb ?m_hb ?l_hb ?c_hb ?k_hb ?b_hm ?m_hm ?l_hm ?c_hm ?k_hm ?b_hr ?m_hr ?l_hr ?c_hr ?k_hr ?b_hg ?m_hg ?l_hg ?c_hg ?k_hg ?b_hwl ?m_hwl ?l_hwl ?c_hwl ?k_hwl ?b_hfo ?m_hfo ?l_hfo ?c_hfo ?k_hfo ?l_hi ?c_hi ?k_hi ?d_hi ?a_CTb ?i_CTb ?j_CTb ?pg_CTb ?hd_CTb ?po_CTb ?sa_CTb ?mk_CTb ?kp_CTb ?l_tbI ?c_tbI ?k_tbI ?z_list ?z_sorted ?z_set ?z_all ?z_len ?z_enumerate ?z_range ?z_isinstance ?z_tuple ?z_any ?z_ValueError ?z_bool ?z_str ?z_zip ?w_W ?w_MOST_CALLS ?a_L ?l_L ?c_L ?h_L
    (case nPT => kernel_rfl)
    (case a_O => k_is)
    (case l_O => k_is)
    (case c_O => k_is)
    (case k_O => k_is)
    (case a_S => k_is)
    (case l_S => k_is)
    (case c_S => k_is)
    (case k_S => k_is)
    (case a_Y => k_is)
    (case l_Y => k_is)
    (case c_Y => k_is)
    (case k_Y => k_is)
    (case a_W => k_is)
    (case l_W => k_is)
    (case c_W => k_is)
    (case k_W => k_is)
    (case a_I => k_is)
    (case l_I => k_is)
    (case c_I => k_is)
    (case k_I => k_is)
    (case a_cw => k_is)
    (case l_cw => k_is)
    (case c_cw => k_is)
    (case k_cw => k_is)
    (case a_cb => k_is)
    (case l_cb => k_is)
    (case c_cb => k_is)
    (case k_cb => k_is)
    (case a_cs => k_is)
    (case l_cs => k_is)
    (case c_cs => k_is)
    (case k_cs => k_is)
    (case a_st => k_is)
    (case l_st => k_is)
    (case c_st => k_is)
    (case k_st => k_is)
    (case a_re => k_is)
    (case l_re => k_is)
    (case c_re => k_is)
    (case k_re => k_is)
    (case a_af => k_is)
    (case l_af => k_is)
    (case c_af => k_is)
    (case k_af => k_is)
    (case a_cf => k_is)
    (case l_cf => k_is)
    (case c_cf => k_is)
    (case k_cf => k_is)
    (case a_ca => k_is)
    (case l_ca => k_is)
    (case c_ca => k_is)
    (case k_ca => k_is)
    (case a_start => k_is)
    (case l_start => k_is)
    (case c_start => k_is)
    (case k_start => k_is)
    (case a_draw => k_is)
    (case l_draw => k_is)
    (case c_draw => k_is)
    (case k_draw => k_is)
    (case a_of => k_is)
    (case l_of => k_is)
    (case c_of => k_is)
    (case k_of => k_is)
    (case a_mixed => k_is)
    (case l_mixed => k_is)
    (case c_mixed => k_is)
    (case k_mixed => k_is)
    (case a_letters => k_is)
    (case l_letters => k_is)
    (case c_letters => k_is)
    (case k_letters => k_is)
    (case a_shuts => k_is)
    (case l_shuts => k_is)
    (case c_shuts => k_is)
    (case k_shuts => k_is)
    (case a_oth => k_is)
    (case l_oth => k_is)
    (case c_oth => k_is)
    (case k_oth => k_is)
    (case a_wit => k_is)
    (case l_wit => k_is)
    (case c_wit => k_is)
    (case k_wit => k_is)
    (case a_pairs => k_is)
    (case l_pairs => k_is)
    (case c_pairs => k_is)
    (case k_pairs => k_is)
    (case a_all => k_is)
    (case l_all => k_is)
    (case c_all => k_is)
    (case k_all => k_is)
    (case a_rms => k_is)
    (case l_rms => k_is)
    (case c_rms => k_is)
    (case k_rms => k_is)
    (case a_fine => k_is)
    (case l_fine => k_is)
    (case c_fine => k_is)
    (case k_fine => k_is)
    (case a_hall => k_is)
    (case l_hall => k_is)
    (case c_hall => k_is)
    (case k_hall => k_is)
    (case a_img => k_is)
    (case l_img => k_is)
    (case c_img => k_is)
    (case k_img => k_is)
    (case a_bys => k_is)
    (case l_bys => k_is)
    (case c_bys => k_is)
    (case k_bys => k_is)
    (case a_smt => k_is)
    (case l_smt => k_is)
    (case c_smt => k_is)
    (case k_smt => k_is)
    (case a_word => k_is)
    (case l_word => k_is)
    (case c_word => k_is)
    (case k_word => k_is)
    (case a_ref => k_is)
    (case l_ref => k_is)
    (case c_ref => k_is)
    (case k_ref => k_is)
    (case a_ist => k_is)
    (case l_ist => k_is)
    (case c_ist => k_is)
    (case k_ist => k_is)
    (case a_chk => k_is)
    (case l_chk => k_is)
    (case c_chk => k_is)
    (case k_chk => k_is)
    (case a_sh => k_is)
    (case l_sh => k_is)
    (case c_sh => k_is)
    (case k_sh => k_is)
    (case a_sc => k_is)
    (case l_sc => k_is)
    (case c_sc => k_is)
    (case k_sc => k_is)
    (case a_tu => k_is)
    (case l_tu => k_is)
    (case c_tu => k_is)
    (case k_tu => k_is)
    (case a_ov => k_is)
    (case l_ov => k_is)
    (case c_ov => k_is)
    (case k_ov => k_is)
    (case a_bh => k_is)
    (case l_bh => k_is)
    (case c_bh => k_is)
    (case k_bh => k_is)
    (case a_bk => k_is)
    (case l_bk => k_is)
    (case c_bk => k_is)
    (case k_bk => k_is)
    (case a_ro => k_is)
    (case l_ro => k_is)
    (case c_ro => k_is)
    (case k_ro => k_is)
    (case a_ot => k_is)
    (case l_ot => k_is)
    (case c_ot => k_is)
    (case k_ot => k_is)
    (case a_stt => k_is)
    (case l_stt => k_is)
    (case c_stt => k_is)
    (case k_stt => k_is)
    (case a_isP => k_is)
    (case l_isP => k_is)
    (case c_isP => k_is)
    (case k_isP => k_is)
    (case a_chP => k_is)
    (case l_chP => k_is)
    (case c_chP => k_is)
    (case k_chP => k_is)
    (case a_afb => k_is)
    (case l_afb => k_is)
    (case c_afb => k_is)
    (case k_afb => k_is)
    (case a_to => k_is)
    (case l_to => k_is)
    (case c_to => k_is)
    (case k_to => k_is)
    (case a_go => k_is)
    (case l_go => k_is)
    (case c_go => k_is)
    (case k_go => k_is)
    (case a_so => k_is)
    (case l_so => k_is)
    (case c_so => k_is)
    (case k_so => k_is)
    (case a_ke => k_is)
    (case l_ke => k_is)
    (case c_ke => k_is)
    (case k_ke => k_is)
    (case a_itn => k_is)
    (case l_itn => k_is)
    (case c_itn => k_is)
    (case k_itn => k_is)
    (case a_ct => k_is)
    (case l_ct => k_is)
    (case c_ct => k_is)
    (case k_ct => k_is)
    (case a_CH => k_is)
    (case a_CB => k_is)
    (case a_CF => k_is)
    (case a_CA => k_is)
    (case a_CT => k_is)
    (case a_CR => k_is)
    (case a_CM => k_is)
    (case a_CN => k_is)
    (case i_H => k_is)
    (case r_H => k_is)
    (case g_H => k_is)
    (case v_V => k_is)
    (case x_CB => k_is)
    (case rv_CB => decide +kernel)
    (case sa_CB => k_is)
    (case ex_CB => k_is)
    (case ty_CB => k_is)
    (case kc_CB => k_is)
    (case i_CB => k_is)
    (case t_CB => k_is)
    (case n_CB_word => k_is)
    (case n_CB_at => k_is)
    (case x_CF => k_is)
    (case rv_CF => decide +kernel)
    (case sa_CF => k_is)
    (case ex_CF => k_is)
    (case ty_CF => k_is)
    (case kc_CF => k_is)
    (case i_CF => k_is)
    (case t_CF => k_is)
    (case n_CF_word => k_is)
    (case n_CF_side => k_is)
    (case x_CA => k_is)
    (case rv_CA => decide +kernel)
    (case sa_CA => k_is)
    (case ex_CA => k_is)
    (case ty_CA => k_is)
    (case kc_CA => k_is)
    (case i_CA => k_is)
    (case t_CA => k_is)
    (case n_CA_word => k_is)
    (case n_CA_one => k_is)
    (case n_CA_other => k_is)
    (case x_CT => k_is)
    (case rv_CT => decide +kernel)
    (case sa_CT => k_is)
    (case ga_CT => k_is)
    (case gg_CT => k_is)
    (case hd_CT => k_is)
    (case ex_CT => k_is)
    (case ty_CT => k_is)
    (case kc_CT => k_is)
    (case i_CT => k_is)
    (case t_CT => k_is)
    (case n_CT_word => k_is)
    (case x_CR => k_is)
    (case rv_CR => decide +kernel)
    (case sa_CR => k_is)
    (case ga_CR => k_is)
    (case gg_CR => k_is)
    (case hd_CR => k_is)
    (case ex_CR => k_is)
    (case ty_CR => k_is)
    (case kc_CR => k_is)
    (case i_CR => k_is)
    (case t_CR => k_is)
    (case n_CR_word => k_is)
    (case l_iH => k_is)
    (case c_iH => k_is)
    (case k_iH => k_is)
    (case l_iB => k_is)
    (case c_iB => k_is)
    (case k_iB => k_is)
    (case l_iF => k_is)
    (case c_iF => k_is)
    (case k_iF => k_is)
    (case l_iA => k_is)
    (case c_iA => k_is)
    (case k_iA => k_is)
    (case l_iT => k_is)
    (case c_iT => k_is)
    (case k_iT => k_is)
    (case l_iR => k_is)
    (case c_iR => k_is)
    (case k_iR => k_is)
    (case e_CT_CH => first | k_is | kernel_rfl)
    (case e_CT_CM => first | k_is | kernel_rfl)
    (case e_CT_CN => first | k_is | kernel_rfl)
    (case e_CR_CH => first | k_is | kernel_rfl)
    (case e_CR_CM => first | k_is | kernel_rfl)
    (case e_CR_CN => first | k_is | kernel_rfl)
    (case ex_CH => k_is)
    (case ty_CH => k_is)
    (case ic_CH => k_is)
    (case ex_CM => k_is)
    (case ty_CM => k_is)
    (case ic_CM => k_is)
    (case ex_CN => k_is)
    (case ty_CN => k_is)
    (case ic_CN => k_is)
    (case a_C => k_is)
    (case i_C => k_is)
    (case j_C => k_is)
    (case pg_C => k_is)
    (case hd_C => k_is)
    (case po_C => k_is)
    (case sa_C => k_is)
    (case mk_C => k_is)
    (case kp_C => k_is)
    (case n1_C => k_is)
    (case n2_C => k_is)
    (case n3_C => k_is)
    (case b_hb => k_is)
    (case m_hb => k_is)
    (case l_hb => k_is)
    (case c_hb => k_is)
    (case k_hb => k_is)
    (case b_hm => k_is)
    (case m_hm => k_is)
    (case l_hm => k_is)
    (case c_hm => k_is)
    (case k_hm => k_is)
    (case b_hr => k_is)
    (case m_hr => k_is)
    (case l_hr => k_is)
    (case c_hr => k_is)
    (case k_hr => k_is)
    (case b_hg => k_is)
    (case m_hg => k_is)
    (case l_hg => k_is)
    (case c_hg => k_is)
    (case k_hg => k_is)
    (case b_hwl => k_is)
    (case m_hwl => k_is)
    (case l_hwl => k_is)
    (case c_hwl => k_is)
    (case k_hwl => k_is)
    (case b_hfo => k_is)
    (case m_hfo => k_is)
    (case l_hfo => k_is)
    (case c_hfo => k_is)
    (case k_hfo => k_is)
    (case l_hi => k_is)
    (case c_hi => k_is)
    (case k_hi => k_is)
    (case d_hi => k_is)
    (case a_CTb => k_is)
    (case i_CTb => k_is)
    (case j_CTb => k_is)
    (case pg_CTb => k_is)
    (case hd_CTb => k_is)
    (case po_CTb => k_is)
    (case sa_CTb => k_is)
    (case mk_CTb => k_is)
    (case kp_CTb => k_is)
    (case l_tbI => k_is)
    (case c_tbI => k_is)
    (case k_tbI => k_is)
    (case z_list => k_is)
    (case z_sorted => k_is)
    (case z_set => k_is)
    (case z_all => k_is)
    (case z_len => k_is)
    (case z_enumerate => k_is)
    (case z_range => k_is)
    (case z_isinstance => k_is)
    (case z_tuple => k_is)
    (case z_any => k_is)
    (case z_ValueError => k_is)
    (case z_bool => k_is)
    (case z_str => k_is)
    (case z_zip => k_is)
    (case w_W => k_is)
    (case w_MOST_CALLS => k_is)
    (case a_L => k_is)
    (case l_L => k_is)
    (case c_L => k_is)
    (case h_L => kernel_rfl)
