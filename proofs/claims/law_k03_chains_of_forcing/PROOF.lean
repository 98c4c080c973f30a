import PyProof.Rows.All
import Wide.All
import OpenK.AllK
import Wide.FinOn
import HandS.ForMost
import HandS.More
import HandS.Set
import HandS.ClsMeth
import HandS.ExcInit
import HandS.Lambda
import HandS.TryMany
import HandS.ExcField
import HandS.SetTxt0
import HandS.SetFor
import KE.GoesMore
import HandS.Walk
import HandS.DictComp
import HandS.WordsExc
import HandS.Defaults
import PySem.Challenge.RW_nearcall_k03_chains_of_forcing
import HandS.Style
import HandS.StrMore
import HandS.IsInst
import HandS.EndTab
set_option Elab.async false
set_option linter.all false
set_option maxRecDepth 100000
namespace NC
open PySem PySem.Spec PyProof.Rows L2
def sg (c : Nat) : Str := ⟨#[c]⟩
def sgs (x : Str) : List Str := x.cps.toList.map sg
section
variable {X : Cx}
theorem mt_swap : MtR X "str.swapcase" (fun x xs H Q => ∃ a, x = .str a ∧ xs = [] ∧ a.length ≤ 1000 ∧ Q (.str (Txt.swapcase a)) H) :=
  mt0 (C := fun a => a.length ≤ 1000) (g := fun a => .str (Txt.swapcase a)) fun a _ s _ hc h =>
    PySem.SC.swapcase (short24 (by have h1 : a.length ≤ 1000 := hc; have := len_swapcase a; omega)) (h _ (s.toks + 1) ⟨_, rfl⟩)
theorem items_strs {x : Str} {acc : Array Value} (h : ItemsOf (SignAt x) acc x.cps.size) : StrsAre acc.toList (sgs x) := by
  refine strs_at (by simp [sgs, h.1]) fun j v e => ?_
  obtain ⟨c, u, hc, hv⟩ := h.2 j v (by simpa using e)
  exact ⟨sg c, u, by simp [sgs, hc], hv⟩
/-- list(text) -/
theorem cr_listS (hc : X.calm = true) : CallR X (.type "list") (fun xs H Q => ∃ z, xs = [.str z] ∧ z.length ≤ sizeLine ∧ ∀ l, H l = none → Q (.ref l) (upd H l (.lst ((sgs z).map V.str)))) := by
  intro pins s σ H xs us Q I r h
  obtain ⟨z, rfl, hz, q⟩ := h
  obtain ⟨u, rfl, t, rfl⟩ := vals1 r
  refine call_list_str (I.ok.hd hc) z t (hn := hz) fun h' tk acc' c' hk hS' hacc => ?_
  have hl : ((sgs z).map V.str).length ≤ sizeLine := by
    rw [List.length_map]; unfold sgs; rw [List.length_map, Array.length_toList]; exact hz
  refine ⟨.ref s.heap.objs.size, upd H s.heap.objs.size (.lst ((sgs z).map V.str)), I.laid hk (Nat.le_refl _) ⟨hl, acc'.toList, c', vals_of_strs (items_strs hacc), by simpa using hS'⟩, rfl, q _ (I.hok.fresh (Nat.le_refl _))⟩
/-- sorted(v), where what is gathered of v are fewer than 64 texts -/
theorem srt_str {pins : List (Addr × Obj)} {s : Shared} {σ : L2.St} {H : Hp} {Q : VK} (I : Inv X pins σ H s) (v : Value) (ks : List Str) (h64 : ks.length < 64)
    (hcol : ∀ (E : Value → Shared → Prop) (Q' : List Value → Shared → Prop), (∀ s' out ks', s'.os = s.os → s'.gens = s.gens → (∀ b o, s.heap.get? b = some o → s'.heap.get? b = some o) → StrsAre out ks' → ks'.Perm ks → Q' out s') →
      wpAny (model X.prog X.w) X.A.in1 (collect v) Q' E s)
    (q : ∀ ys p, ys.Perm ks → sortedS ys = true → H p = none → Q (.ref p) (upd H p (.lst (ys.map V.str)))) :
    wpAny (model X.prog X.w) X.A (call (.builtin "sorted") [v]) (EP X pins σ Q) X.xe s := by
  have go : wpAny (model X.prog X.w) X.A.in1 (collect v) (fun out s1 => ∃ ks', s1.os = s.os ∧ s1.gens = s.gens ∧ (∀ b o, s.heap.get? b = some o → s1.heap.get? b = some o) ∧ StrsAre out ks' ∧ ks'.Perm ks) X.xe s := hcol _ _ fun s1 out ks' e1 e2 e3 e4 e5 => ⟨ks', e1, e2, e3, e4, e5⟩
  refine Calls.call_function_entry PyProof.Rows.kind_sorted PyProof.Rows.plain_sorted PyProof.Rows.entry_sorted (PyProof.Rows.args_sorted1 _) (show wpAny _ X.A.in1 (Builtin.«sorted» _) _ _ _ from ?_)
  unfold Builtin.«sorted»
  refine wpAny_bind (wpAny_pure (wpAny_bind (thn go fun out t g => ?_)))
  obtain ⟨ks', io, gn, stay, sts, perm⟩ := g
  have J : Inv X pins σ H t := I.call' (ch := []) io (Un.kept stay) (I.hok.kept stay) (gn.symm ▸ I.bare) nofun
  have few : out.length < 64 := by
    have l1 := StrsAre.len_eq sts
    have l2 := perm.length_eq
    omega
  obtain ⟨hp, gs, dr, tk, os⟩ := t
  have lst : (hp.push (seqObj "list" out.toArray 0)).get? hp.objs.size = some (seqObj "list" out.toArray 0) := Heap.get?_push_size _ rfl
  refine wpAny_bind (wpAny_newList (wpAny_bind (wpAny_holding (wpAny_call_entry PyProof.Rows.slot_list_sort ⟨_, lst, rfl⟩ PyProof.Rows.entry_list_sort (list_sort_treeK strKind_oneLt lst sts.keysOf (fun _ _ _ e => keyKind_strs (e ▸ sts)) few fun st p1 p2 => ⟨_, rfl, ?_⟩)
    (PyProof.Rows.args_list_sort _)))) (by rw [sizeLine_eq]; omega))
  obtain ⟨ys, is, py, so⟩ := sorted_out_str sts p1 p2
  obtain ⟨ep, at_⟩ := PyProof.Rows.sortedHeap_at (vs := out) (out := (arrOf st).map (·.2)) lst
  have pk : ys.Perm ks := py.trans perm
  have sz : (ys.map V.str).length ≤ sizeLine := by
    have l3 := pk.length_eq
    rw [sizeLine_eq, List.length_map]
    omega
  have old : ∀ (b : Addr) (o : Obj), hp.get? b = some o → (sortedHeap (hp.push (seqObj "list" out.toArray 0)) hp.objs.size out ((arrOf st).map (·.2))).get? b = some o := fun b o e => by
    have lo := Heap.lt_size e
    rw [PyProof.Rows.sortedHeap_old (Nat.ne_of_lt lo) (by rw [size_push']; exact Nat.lt_succ_of_lt lo), Heap.get?_push_of_some _ e]
  exact wpAny_pure ⟨_, rfl, .ref hp.objs.size, upd H hp.objs.size (.lst (ys.map V.str)), J.laid (t' := tk) old (Nat.le_refl _) (show ObjOk X.prog X.w _ _ _ (.lst (ys.map V.str)) from ⟨sz, ((arrOf st).map (·.2)).toList, ep, vals_of_strs is, Array.toArray_toList.symm ▸ at_⟩), rfl, q ys _ pk so (J.hok.fresh (Nat.le_refl _))⟩
/-- sorted(text) -/
theorem cr_sortedT (hc : X.calm = true) : CallR X (.builtin "sorted") (fun xs H Q => ∃ z, xs = [.str z] ∧ z.length < 64 ∧ ∀ ys p, ys.Perm (sgs z) → sortedS ys = true → H p = none → Q (.ref p) (upd H p (.lst (ys.map V.str)))) := by
  intro pins s σ H xs us Q I r h
  obtain ⟨z, rfl, hz, q⟩ := h
  obtain ⟨u, rfl, t, rfl⟩ := vals1 r
  have hl : (sgs z).length < 64 := by unfold sgs; rw [List.length_map, Array.length_toList]; exact hz
  refine srt_str I (.str z t) (sgs z) hl (fun E Q' hQ => ?_) q
  refine wpAny_collect_str (A := X.A.in1) (I.ok.hd hc) z t (hn := by show z.length ≤ sizeLine; rw [sizeLine_eq]; omega) fun s' acc hk hg hd ho hacc => ?_
  exact hQ s' _ _ ho hg hk (items_strs hacc) (List.Perm.refl _)
end
end NC
namespace NC
open PySem PySem.Spec PyProof.Rows L2
section
variable {X : Cx} {CX : CXT} {k : Nat} {C f : Addr} {mc : Value} {sp : Sp} {E : XK} {e : Expr} {es : List Expr} {x m : Str} {pos p1 p2 : Pos} {t : TA} {pl : Sem Bool}
  {fd : FuncData} {ps : List Str} {dvs : List V} {ds : List Value}
/-- C.m(e, ..), C an own class by its name, m a plain def of it -/
theorem pe_clsfn (hg : Gl X x) (hm : X.mg x = some (.ref C)) (rd : ClX.CRead X.K C mc) (kv : PySem.W.findCls X.K (.ref C) mc m = some (.val (.ref f)))
    (F : FnOk X.prog X.w X.K X.mg X.base CX k f fd ps sp) (hr : Room k X.A) (hk : PySem.W.keepIn X.K (.ref f) = true) (hb : Binds X.K fd ps ds) (hd : Vals dvs ds) (hx : Passes CX X E) (ha : PA X (e :: es) t)
    (hdb : (x == ("__debug__" : Str)) = false := by decide)
    (hst : starEach (e :: es) X.env = (false, eval e X.env) :: starEach es X.env := by rfl) (hpl : (backTo pos (starEach es X.env)).any (·.1) = false := by rfl)
    (ht : eval (.Call (.Attribute (.Name x p1) m p2) (e :: es) [] pos) X.env = (do
      let ov ← eval (.Name x p1) X.env
      standAt p2.atName
      let (g, first) ← holding [ov] (getMethod ov m pl)
      callWith pos g first (backTo pos (starEach (e :: es) X.env)) (backToKw pos (keywordEach [] X.env))) := by rfl) :
    PE X (.Call (.Attribute (.Name x p1) m p2) (e :: es) [] pos) (tCall sp dvs E t) := by
  refine ⟨fun pins s0 σ H Q I0 h0 => ?_⟩
  refine PySem.W.methodCall_KW (pl := pl) (ld_glob I0 hg hm ?_ hdb) ht
  refine PySem.W.method_cls I0.kIn rd.ga (ClX.getcval_ok (v := .ref f) I0 rd ⟨kv, rfl⟩ fun s1 I1 => ?_)
  refine PySem.W.callWith_K (first := []) (h₀ := X.base) I1.ok.mod.kin hk (thn (ha.run pos pins s1 σ H _ I1 h0) fun us s2 ⟨vs, H2, I2, r2, q2⟩ => ⟨I2.kIn, ?_⟩) hst hpl
  exact run_fn (us := us) (vs := vs) F hr hb hd hx I2 r2 q2
end
end NC
namespace NC
open PySem PySem.Spec PyProof.Rows L2
open PySem.Froz (SD sObj runD addTx tailTx TxOk sing itObj finU two)
/-- the table rises and may be walked -/
def TxG (b : Bool) (D : SD) : Prop := Ris D.2.2.place.toList ∧ D.2.2.led = b
theorem txg_tail {b : Bool} {ep : Nat} {es : Array (Int × Value)} {t : SetTable} {d : Bool} (h : Ris t.place.toList ∧ t.led = b) : TxG b (tailTx ep es t d) := by
  unfold tailTx
  by_cases c : (!d && t.tooFull) = true
  · rw [if_pos c]; exact ⟨relayAll_ris _ _ _, (relayAll_led _ _ _).trans h.2⟩
  · rw [if_neg c]; exact h
theorem txg_add {b : Bool} {D : SD} {hv : Int} {v : Value} (h : TxG b D) : TxG b (addTx hv v D) := by
  unfold addTx
  have h1 := layNew_ris D.2.2 D.1 hv v h.1
  have h2 := (layNew_led D.2.2 D.1 hv v).trans h.2
  refine txg_tail ?_
  split
  · exact ⟨h1, h2⟩
  · exact ⟨h1, h2⟩
theorem run_good {P : Program} {w : World} {b : Bool} : ∀ (cs : List Nat) (tk : Tok) (D : SD) (l : List Str), TxG b D → TxOk P w D l → ∃ l', TxG b (runD w cs tk D) ∧ TxOk P w (runD w cs tk D) l' ∧ l'.Perm (l ++ cs.map sg)
  | [], tk, D, l, g, o => ⟨l, g, o, by simp⟩
  | c :: r, tk, D, l, g, o => by
    obtain ⟨l', g', o', p⟩ := run_good r (tk + 2) _ (sing c :: l) (txg_add g) (Froz.add_ok (k := sing c) tk o)
    refine ⟨l', g', o', p.trans ?_⟩
    show (sg c :: (l ++ r.map sg)).Perm (l ++ (sg c :: r.map sg))
    exact List.perm_middle.symm
theorem loop_txt {P : Program} {w : World} {A : Around} {R : Result → Shared → Prop} {s : Shared} {a it : Addr} {x : Str} {u : Tok} {led : Bool} (hh : A.handled = none) (hne : a ≠ it)
    (ha : s.heap.get? a = some (sObj "set" (#[], 0, .fresh 0 0 led))) (hit : s.heap.get? it = some (itObj x u 0)) (hnd : x.cps.toList.Nodup) (hb : x.cps.toList.length < 64)
    (h : ∀ (h' : Heap) (tk : Nat) (D : SD) (l : List Str), h'.get? a = some (sObj "set" D) → TxG led D → TxOk P w D l → l.Perm (sgs x) →
      (∀ b o, b ≠ a → b ≠ it → s.heap.get? b = some o → h'.get? b = some o) → R (.ok (.ret .none)) { s with heap := h', toks := tk }) :
    codeAny (model P w) A (.builtin "set.update.loop" ⟨[.ref a, .ref it], []⟩) R s := by
  have g0 : TxG led ((#[], 0, .fresh 0 0 led) : SD) := ⟨List.Pairwise.nil, rfl⟩
  have o0 : TxOk P w ((#[], 0, .fresh 0 0 led) : SD) [] := Froz.TxOk.nil rfl
  obtain ⟨l', g1, o1, p1⟩ := run_good (P := P) (w := w) x.cps.toList s.toks _ [] g0 o0
  refine Froz.code_update (T := "set") (u := u) hne hh x.cps.toList 0 _ [] s rfl ha hit o0 (fun c _ z => nomatch z) hnd (by show 0 + x.cps.toList.length < scanBound; unfold scanBound; omega) ?_
  unfold finU two
  have e1 := Froz.get_upd (sObj "set" (runD w x.cps.toList s.toks (#[], 0, .fresh 0 0 led))) ha rfl
  refine h _ _ _ l' (Heap.get?_push_of_some _ (Heap.get?_push_of_some _ (Heap.get?_update_of_ne _ (Ne.symm hne) e1))) g1 o1 (p1.trans (by simp [sgs])) fun b o h1 h2 e => ?_
  exact Heap.get?_push_of_some _ (Heap.get?_push_of_some _ (Heap.get?_update_of_ne _ (Ne.symm h2) (Heap.get?_update_of_ne _ (Ne.symm h1) e)))
set_option maxHeartbeats 3200000 in
/-- set(text), its signs unlike -/
theorem call_set_txt {P : Program} {w : World} {A : Around} {E : Value → Shared → Prop} {s : Shared} {x : Str} {t : Tok} {Q : Value → Shared → Prop} (hh : A.handled = none) (hA : x.cps.all (· < 128) = true)
    (hnd : x.cps.toList.Nodup) (hb : x.cps.toList.length < 64)
    (h : ∀ (h' : Heap) (tk : Nat) (D : SD) (l : List Str), h'.get? s.heap.objs.size = some (sObj "set" D) → TxG (!w.params.followText "set-order") D → TxOk P w D l → l.Perm (sgs x) →
      (∀ b o, s.heap.get? b = some o → h'.get? b = some o) → Q (.ref s.heap.objs.size) { s with heap := h', toks := tk }) :
    wpAny (model P w) A (call (.type "set") [.str x t]) Q E s := by
  obtain ⟨c, tl, hmro⟩ := PySem.F.called_set.mro
  have hmade := PySem.F.called_set.made
  have hsub := PySem.F.called_set.sub
  generalize hled : (!w.params.followText "set-order") = led at h
  refine wpAny_call (codeAny_of_tree ?_)
  show wpAny _ _ (callAny (.type "set") _) _ _ _
  refine wpAny_pure ⟨Code.quiet_builtin _ (by decide +kernel), codeAny_builtin PySem.F.entry_type_call ?_⟩
  rw [Around.under_plain (weight_type_call_type "set" [.str x t] []) rfl]
  have n1 := PySem.F.called_set.notType
  have n2 := PySem.F.called_set.canCreate
  have hct := PySem.F.typeCall_set_1 (.str x t)
  repeat (any_goals (first | assumption | wp_step))
  refine codeAny_mono (code_set_led1 (.str x t) (E := E) (Q₁ := fun ob s1 => ob = .ref s.heap.objs.size ∧ s1 = { s with heap := s.heap.push (sObj "set" (#[], 0, .fresh 0 0 led)) }) ⟨rfl, by rw [hled]; rfl⟩) fun r s1 hr => ?_
  cases r with
  | error e => exact hr
  | ok fl =>
    cases fl with
    | ret ob =>
      obtain ⟨rfl, rfl⟩ := hr
      have hS : (s.heap.push (sObj "set" (#[], 0, .fresh 0 0 led))).get? s.heap.objs.size = some (sObj "set" (#[], 0, .fresh 0 0 led)) := Heap.get?_push_size _ rfl
      have hT : Shared.TypeIs { s with heap := s.heap.push (sObj "set" (#[], 0, .fresh 0 0 led)) } (.ref s.heap.objs.size) "set" := ⟨_, hS, rfl⟩
      have hli := PySem.F.called_set.init.lookup
      have hbi := PySem.F.called_set.init.bind (.ref s.heap.objs.size)
      repeat (any_goals (first | assumption | wp_step))
      refine codeAny_mono (codeAny_call_builtin (R := wants (fun r s2 => r = .none ∧ Q (.ref s.heap.objs.size) s2) E) PySem.F.called_set.init.plain PySem.F.entry_set_init (check_set_init_1 hT ?_)) fun r2 s2 hr2 => ?_
      · unfold Builtin.«set.__init__» noKeywords Builtin.Frozenset.updateFrom
        have b1 : isSubtype (.type "str") (.type "set") = pure false := by rw [isSubtype_type]; kernel_rfl
        have b2 : isSubtype (.type "str") (.type "frozenset") = pure false := by rw [isSubtype_type]; kernel_rfl
        have b3 : (Value.type "str" == Value.type "dict") = false := by decide
        generalize hPI : pyIter = PI
        wp_walk
        subst hPI
        refine wpAny_pyIter_ascii hA ?_
        refine wpAny_bind (wpAny_runValue ?_)
        have hz : (s.heap.push (sObj "set" (#[], 0, .fresh 0 0 led))).objs.size = s.heap.objs.size + 1 := Heap.size_push ..
        refine loop_txt (A := A.in1.in1) (u := t) (by simp [hh]) (by show s.heap.objs.size ≠ (s.heap.push _).objs.size; rw [hz]; omega) (Heap.get?_push_of_some _ hS) (Heap.get?_push_size _ rfl) hnd hb fun h' tk D l e1 e2 e3 e4 e5 => ?_
        refine wpAny_pure ?_
        show wpAny _ _ (ret Value.none) _ _ _
        refine wpAny_pure ⟨rfl, h h' tk D l e1 e2 e3 e4 fun b o e => e5 b o ?_ ?_ (Heap.get?_push_of_some _ (Heap.get?_push_of_some _ e))⟩
        · exact Nat.ne_of_lt (Heap.lt_size e)
        · show b ≠ (s.heap.push _).objs.size
          rw [hz]
          exact Nat.ne_of_lt (Nat.lt_succ_of_lt (Heap.lt_size e))
      · cases r2 with
        | error e => exact hr2
        | ok f2 =>
          cases f2 with
          | ret r =>
            obtain ⟨rfl, hq⟩ := hr2
            repeat (any_goals (first | assumption | wp_step))
          | _ => exact hr2.elim
    | _ => exact hr.elim
/-- a set of the texts l -/
def SetTx (P : Program) (w : World) (a : Addr) (l : List Str) : HO := .ext fun h => ∃ D : SD, h.get? a = some (sObj "set" D) ∧ TxG (!w.params.followText "set-order") D ∧ TxOk P w D l
section
variable {X : Cx}
theorem setTx_ok {H : Hp} {h : Heap} {a : Addr} {l : List Str} {D : SD} (e : h.get? a = some (sObj "set" D)) (g : TxG (!X.w.params.followText "set-order") D) (o : TxOk X.prog X.w D l) : ObjOk X.prog X.w H h a (SetTx X.prog X.w a l) :=
  ⟨⟨D, e, g, o⟩, ⟨_, e⟩, fun h1 h2 ⟨D', e', r'⟩ k => ⟨D', k _ e', r'⟩⟩
theorem cr_setT (hc : X.calm = true) : CallR X (.type "set") (fun xs H Q => ∃ z, xs = [.str z] ∧ z.cps.all (· < 128) = true ∧ z.cps.toList.Nodup ∧ z.cps.toList.length < 64 ∧
    ∀ p l, H p = none → l.Perm (sgs z) → Q (.ref p) (upd H p (SetTx X.prog X.w p l))) := by
  intro pins s σ H xs us Q I r h
  obtain ⟨z, rfl, hA, hn, hl, q⟩ := h
  obtain ⟨u, rfl, t, rfl⟩ := vals1 r
  refine call_set_txt (P := X.prog) (w := X.w) (I.ok.hd hc) hA hn hl fun h' tk D l e1 e2 e3 e4 e5 => ?_
  exact ⟨.ref s.heap.objs.size, _, I.laid e5 (Nat.le_refl _) (setTx_ok e1 e2 e3), rfl, q _ l (I.hok.fresh (Nat.le_refl _)) e4⟩
theorem strs_map : ∀ vs : List Value, (∀ v ∈ vs, ∃ y u, v = Value.str y u) → StrsAre vs (vs.map strOf)
  | [], _ => .nil
  | v :: r, h => by
    obtain ⟨y, u, rfl⟩ := h v (List.mem_cons_self ..)
    exact .cons y u (strs_map r fun z hz => h z (List.mem_cons_of_mem _ hz))
theorem strs_perm {vs out : List Value} {ks : List Str} (h : StrsAre vs ks) (p : out.Perm vs) : ∃ ks', StrsAre out ks' ∧ ks'.Perm ks := by
  refine ⟨_, strs_map out fun v hv => h.all v (p.mem_iff.mp hv), ?_⟩
  rw [← h.strs]
  exact p.map _
theorem nd_perm : ∀ (l ks : List Str), l.Nodup → (∀ y ∈ l, y ∈ ks) → ks.length ≤ l.length → ks.Perm l
  | [], ks, _, _, h => by
    have e : ks = [] := List.length_eq_zero_iff.mp (by simpa using h)
    rw [e]
  | y :: r, ks, hn, hs, h => by
    obtain ⟨n1, n2⟩ := List.nodup_cons.mp hn
    have m : y ∈ ks := hs y (List.mem_cons_self ..)
    have hl := List.length_erase_of_mem m
    have q := nd_perm r (ks.erase y) n2 (fun z hz => (List.mem_erase_of_ne (fun e : z = y => n1 (by rw [← e]; exact hz))).mpr (hs z (List.mem_cons_of_mem _ hz))) (by
      rw [List.length_cons] at h
      omega)
    exact (List.perm_cons_erase m).trans (q.cons y)
theorem tx_strs {P : Program} {w : World} {D : SD} {l : List Str} (o : TxOk P w D l) (hn : l.Nodup) : ∃ ks, StrsAre (D.1.toList.map (·.2)) ks ∧ ks.Perm l := by
  have sh : ∀ e ∈ D.1.toList, ∃ k u, e.2 = Value.str k u ∧ (strKind P w).is k e.2 = true := fun e he => by
    obtain ⟨⟨k, hk, _⟩, _⟩ := o.el e he
    obtain ⟨u, eu⟩ := Value.isStrOf_shape (x := k) (v := e.2) hk
    exact ⟨k, u, eu, hk⟩
  refine ⟨_, strs_map _ fun v hv => ?_, nd_perm l _ hn (fun k hk => ?_) ?_⟩
  · obtain ⟨e, he, rfl⟩ := List.mem_map.mp hv
    obtain ⟨k, u, eu, _⟩ := sh e he
    exact ⟨k, u, eu⟩
  · obtain ⟨e, he, z⟩ := (o.mem k).mp hk
    obtain ⟨u, eu⟩ := Value.isStrOf_shape (x := k) (v := e.2) z
    refine List.mem_map.mpr ⟨e.2, List.mem_map.mpr ⟨e, he, rfl⟩, ?_⟩
    rw [eu]
    rfl
  · rw [List.length_map, List.length_map, Array.length_toList, o.sz]
    exact Nat.le_refl _
theorem cr_sortedSetT (hc : X.calm = true) : CallR X (.builtin "sorted") (fun xs H Q => ∃ a l, xs = [.ref a] ∧ H a = some (SetTx X.prog X.w a l) ∧ l.Nodup ∧ l.length < 64 ∧
    ∀ ys p, ys.Perm l → sortedS ys = true → H p = none → Q (.ref p) (upd H p (.lst (ys.map V.str)))) := by
  intro pins s σ H xs us Q I r h
  obtain ⟨a, l, rfl, ha, hn, hl, q⟩ := h
  rw [Vals.ref1 r]
  obtain ⟨⟨D, e, g, o⟩, _, _⟩ := I.hok a _ ha
  obtain ⟨ks, hS, hp⟩ := tx_strs o hn
  have hsz : D.1.size < scanBound := by rw [o.sz]; unfold scanBound; omega
  refine srt_str I (.ref a) l hl (fun E Q' hQ => ?_) q
  refine collect_set (A := X.A.in1) (P := X.prog) (w := X.w) (es := D.1) (ep := D.2.1) (t := D.2.2) (I.ok.hd hc) ⟨_, e, rfl, rfl⟩ o.fit hsz g.1 ?_ fun s' out k1 k2 k3 k4 k5 => ?_
  · rw [g.2]
    cases X.w.params.followText "set-order"
    · exact .inr rfl
    · exact .inl rfl
  · obtain ⟨ks', hS', hp'⟩ := strs_perm hS k5
    exact hQ s' out ks' k4 k3 k1 hS' (hp'.trans hp)
end
end NC
/-! enumerate of a tuple: the call, one turn, the end -/
namespace NC
open PySem PySem.Spec PyProof.Rows L2
/-- the two objects that enumerate(t) lays, t at l -/
abbrev titO (l : Addr) : Obj := { cls := .type "tuple_iterator", data := .fields #[.ref l, .int 0 0] }
abbrev enuO (it : Addr) : Obj := { cls := .type "enumerate", data := .fields #[.none, .bool false, .ref it, rawInt 0, .none, .none] }
theorem meets_enumT (l : Addr) (ob : Obj) (items : Array Value) (n : Nat) (hc : ob.cls = .type "tuple") (hd : ob.data = .seq items n) :
    Meets (Builtin.«enumerate.__new__» ⟨[.type "enumerate", .ref l], []⟩) (fun _ R s => s.heap.get? l = some ob ∧ R (.ok (.ret (.ref (s.heap.push (titO l)).objs.size))) { s with heap := (s.heap.push (titO l)).push (enuO s.heap.objs.size) }) :=
  .of_wp fun P w A R t h => by
    obtain ⟨oc, od, dt, sl⟩ := ob
    cases (show oc = _ from hc)
    cases (show dt = _ from hd)
    have tup : t.heap.IsTuple l items := ⟨_, h.1, rfl, n, rfl⟩
    have sb := sub_enumerate
    obtain ⟨hp, g, d, tk, os⟩ := t
    have ld := h.1
    wp_walk using AutoSeq1.wpAny_loadPart' ld
    refine wpAny_stack_any fun _ => wpAny_pure ?_
    split
    · rename_i k _ _ _ _ _
      cases (k == Value.type "enumerate") <;> (wp_walk using AutoSeq1.wpAny_loadPart' ld, wpAny_pyIter_tuple tup; exact ⟨_, rfl, h.2⟩)
    · wp_walk using AutoSeq1.wpAny_loadPart' ld, wpAny_pyIter_tuple tup
      exact ⟨_, rfl, h.2⟩
theorem call_enumT {P : Program} {w : World} {A : Around} {E Q : Value → Shared → Prop} {t : Shared} {l : Addr} {items : Array Value} (tup : t.heap.IsTuple l items)
    (h : ∀ g, IsEnum g (t.heap.objs.size + 1) t.heap.objs.size 0 .none → g.IsTupleIter t.heap.objs.size l 0 → (∀ b o, t.heap.get? b = some o → g.get? b = some o) → Q (.ref (t.heap.objs.size + 1)) { t with heap := g }) :
    wpAny (model P w) A (call (.type "enumerate") [.ref l]) Q E t := by
  obtain ⟨ob, ho, oc, n, od⟩ := tup
  have sz : (t.heap.push (titO l)).objs.size = t.heap.objs.size + 1 := Heap.size_push ..
  have laid : IsEnum ((t.heap.push (titO l)).push (enuO t.heap.objs.size)) (t.heap.objs.size + 1) t.heap.objs.size 0 .none := by
    have z := Heap.get?_push_size (t.heap.push (titO l)) (o := enuO t.heap.objs.size) rfl
    exact sz ▸ z
  refine callType_new F.called_enumerate (by decide) (F.typeCall_enumerate_1 _) (F.newCall_enumerate_1 _) (fun z => F.args_object_init_2 z _) F.entry_enumerate_new (meets_enumT l ob items n oc od) ⟨ho, ?_⟩
  show _ ∧ _
  rw [sz]
  exact ⟨⟨_, laid, rfl⟩, h _ laid ⟨_, Heap.get?_push_of_some _ (Heap.get?_push_size _ rfl), rfl, rfl⟩ fun _ _ z => Heap.get?_push_of_some _ (Heap.get?_push_of_some _ z)⟩
/-- the walk: at turn i a new pair of i and the item -/
def ItET (K : PySem.W.Frag) (a : Addr) : It :=
  ⟨fun i H => ∃ (xs : List V) (x : V), SqT K H a xs ∧ xs[i]? = some x, fun i H v H' => ∃ T x, v = .ref T ∧ H T = none ∧ H' = upd H T (.tup [.int (i : Nat), x]) ∧ ∀ xs, SqT K H a xs → xs[i]? = some x,
    fun i H => ∃ xs : List V, SqT K H a xs ∧ xs.length ≤ i⟩
/-- the state ahead of turn i: the enumerate object at e, its iterator at it -/
def AtE (a e it : Addr) (i : Nat) (h : Heap) : Prop := (∃ last, IsEnum h e it ((i : Nat) : Int) last) ∧ h.IsTupleIter it a i ∧ e ≠ it
theorem AtE.apart {a e it : Addr} {i : Nat} {h : Heap} {vs : Array Value} (st : AtE a e it i h) (t : h.IsTuple a vs) : a ≠ it ∧ e ≠ a := by
  obtain ⟨⟨_, g1⟩, ⟨o2, g2, c2, _⟩, _⟩ := st
  obtain ⟨o3, g3, c3, _⟩ := t
  have g1 : h.get? e = _ := g1
  refine ⟨fun z => ?_, fun z => ?_⟩
  · rw [z, g2] at g3
    exact absurd (c2.symm.trans ((Option.some.inj g3) ▸ c3)) (by decide)
  · rw [z, g3] at g1
    have c4 : o3.cls = .type "enumerate" := (Option.some.inj g1) ▸ rfl
    exact absurd (c3.symm.trans c4) (by decide)
theorem AtE.olds {a e it : Addr} {i : Nat} {h : Heap} (st : AtE a e it i h) {b : Addr} (m : b ∈ [e, it]) : b < h.objs.size := by
  obtain ⟨⟨_, g1⟩, ⟨o2, g2, _⟩, _⟩ := st
  rcases List.mem_cons.mp m with rfl | m
  · exact Heap.lt_size g1
  · exact (List.mem_singleton.mp m) ▸ Heap.lt_size g2
theorem turn_enumT {P : Program} {w : World} {K : PySem.W.Frag} {elts : List Expr} {kk : Nat} {tpos : Pos} (a e it : Addr) : Turn P w K (.Tuple elts kk tpos) (ItET K a) [e, it] e (AtE a e it) where
  mem := .head _
  obj := fun i h st b m => by
    rcases List.mem_cons.mp m with rfl | m
    · exact st.1.elim fun _ g => ⟨_, g, nofun⟩
    · obtain ⟨o, g, _, k⟩ := st.2.1
      exact ⟨o, (List.mem_singleton.mp m) ▸ g, fun v z => nomatch k.symm.trans z⟩
  keep := fun i h h' st k => ⟨st.1.imp fun _ g => k e (.head _) _ g, st.2.1.at fun o g => k it (.tail _ (.head _)) o g, st.2.2⟩
  item := by
    rintro X rfl rfl rfl calm i ps t σ H E I fre st ⟨xs, x, sq, ax⟩
    obtain ⟨its, vl, tp, _⟩ := I.tuple sq
    have tup : t.heap.IsTuple a its.toArray := tp
    obtain ⟨u, au, rel⟩ := vl.get ax
    have lt : i < its.toArray.size := by simpa using (List.getElem?_eq_some_iff.mp au).1
    obtain ⟨n1, n2⟩ := st.apart tup
    obtain ⟨_, enu⟩ := st.1
    have old : e < t.heap.objs.size := st.olds (.head _)
    refine wpAny_pyNext_enum_itemD (Draws.tuple (prog := X.prog) (w := X.w) (A := X.A.in1) (I.ok.hd calm) it a n1 its.toArray) enu ⟨st.2.1, tup⟩ lt st.2.2 (by simp [st.2.2, n2]) fun y g tk ay own on pair _ stay => ?_
    obtain rfl : y = u := Option.some.inj ((show its[i]? = some y by simpa using ay).symm.trans au)
    refine ⟨_, rfl, wpAny_letOwnedTupleGo_enum (s := { t with heap := g, toks := tk + 1 }) own fun g2 enu2 but => ?_⟩
    have pair2 : g2.get? t.heap.objs.size = some { cls := .type "tuple", data := .seq #[.int i tk, y] } := (but.2 _ (Nat.ne_of_gt old)).trans pair
    refine ⟨.ref t.heap.objs.size, upd H t.heap.objs.size (.tup [.int (i : Nat), x]), I.turnedNew (ch := [e, it]) (fun b o nb z => (but.2 b fun q => nb (by simp [q])).trans (stay b o (fun q => nb (by simp [q])) (fun q => nb (by simp [q])) z)) fre (Nat.le_refl _)
        ⟨by show 2 ≤ sizeLine; decide, [.int i tk, y], .cons ⟨_, rfl⟩ (.cons rel .nil), ⟨_, pair2, rfl, _, rfl⟩⟩, rfl, ⟨_, x, rfl, I.hok.fresh (Nat.le_refl _), rfl, fun ys sy => I.tuple_inj sy sq ▸ ax⟩, ⟨⟨y, ?_⟩, on.1.at fun o z => (but.2 it (Ne.symm st.2.2)).trans z, st.2.2⟩, fun b m => ?_⟩
    · exact (show ((i + 1 : Nat) : Int) = (i : Int) + 1 by omega) ▸ enu2
    · exact (upd_ne (Nat.ne_of_lt (st.olds m))).trans (fre b m).1
  done := by
    rintro X rfl rfl rfl calm i ps t σ H E I fre st ⟨xs, sq, le⟩
    obtain ⟨its, vl, tp, _⟩ := I.tuple sq
    have tup : t.heap.IsTuple a its.toArray := tp
    obtain ⟨_, enu⟩ := st.1
    have ty : t.TypeIs (.ref e) "enumerate" := ⟨_, enu, rfl⟩
    have end_ : its.toArray[i]? = none := by
      have := vl.length
      simp
      omega
    have fr := fre it (.tail _ (.head _))
    unfold pyNext
    refine wpAny_bind (wpAny_attempt (wpAny_callSpecial?_slot (name := Str.ofString "__next__") ty F.slot_enumerate_next (wpAny_call_entry F.slot_enumerate_next ty F.entry_enumerate_next ?_ (F.args_enumerate_next_1 _))))
    show wpAny _ _ (field (.ref e) 2 >>= fun _ => _) _ _ _
    refine wpAny_bind (wpAny_field enu rfl (x := .ref it) rfl (wpAny_bind (wpAny_nextOf_tuple_end (I.ok.hd calm) st.2.1 tup end_ fun g z but hz => ?_)))
    exact wpAny_bind (wpAny_isInstance (T := "StopIteration") (b := true) hz isSubtype_stop (wpAny_pure ⟨rfl, I.turned (t' := t.toks) (fun b o nb q => but b o nb q) fr.1 fr.2.1 fr.2.2.2.1 fr.2.2.2.2.1 fr.2.2.2.2.2⟩))
  self := fun _ _ _ _ _ st h => st.1.elim fun _ g => wpAny_pyIter_enum g h
def iEnumT (K : PySem.W.Frag) (ta : TA) : TI := fun σ H R => ta σ H fun vs H1 => ∃ a, vs = [.ref a] ∧ ((∃ xs, SqL K H1 a xs) ∧ R (Ite K a) H1 ∨ (∃ xs, SqT K H1 a xs) ∧ R (ItET K a) H1)
/-- enumerate of a list or of a tuple -/
theorem pi_enumT {X : Cx} {e : Expr} {ta : TA} {p pos tpos : Pos} {elts : List Expr} {kk : Nat} (gl : Gl X "enumerate") (bi : X.mg "enumerate" = none) (arg : PA X [e] ta) (one : starEach [e] X.env = [(false, eval e X.env)] := by rfl) :
    PI X (.Tuple elts kk tpos) (.Call (.Name "enumerate" p) [e] [] pos) (iEnumT X.K ta) := by
  refine ⟨fun ps t σ H R I h => Call_ (ld_blt I gl bi boot_enumerate (PyProof.Rows.callWith_type1 (thn (arg.run pos ps t σ H _ I h) fun us v r => ?_) one rfl))⟩
  obtain ⟨vs, G, J, rv, a, rfl, r⟩ := r
  cases Vals.ref1 rv
  have new : ∀ b ∈ [v.heap.objs.size + 1, v.heap.objs.size], FpOk X ps G b := fun b m => by
    have up : v.heap.objs.size ≤ b := by
      simp at m
      omega
    exact J.fpOk up (J.hok.fresh up)
  rcases r with ⟨⟨xs, sq⟩, r⟩ | ⟨⟨xs, sq⟩, r⟩
  · obtain ⟨_, _, k, _⟩ := J.list sq
    exact call_enumerate_list k.isList fun g enu iter _ stay => wpAny_pyIter_enum enu ⟨v.heap.objs.size + 1, _, _, _, G, rfl, J.kept (t' := v.toks) stay, turn_enum a (v.heap.objs.size + 1) v.heap.objs.size, ⟨⟨.none, enu⟩, iter, Nat.succ_ne_self _⟩, new, r⟩
  · obtain ⟨its, _, k, _⟩ := J.tuple sq
    exact call_enumT (show v.heap.IsTuple a its.toArray from k) fun g enu iter stay => wpAny_pyIter_enum enu ⟨v.heap.objs.size + 1, _, _, _, G, rfl, J.kept (t' := v.toks) stay, turn_enumT a (v.heap.objs.size + 1) v.heap.objs.size, ⟨⟨.none, enu⟩, iter, Nat.succ_ne_self _⟩, new, r⟩
end NC
namespace NC
open PySem PySem.Spec PyProof.Rows L2
/-! ### signs and texts -/
def tx (l : List Nat) : Str := ⟨l.toArray⟩
def upc (c : Nat) : Nat := if 97 ≤ c ∧ c ≤ 122 then c - 32 else c
def lwc (c : Nat) : Nat := if 65 ≤ c ∧ c ≤ 90 then c + 32 else c
def swp (c : Nat) : Nat := if 97 ≤ c ∧ c ≤ 122 then c - 32 else if 65 ≤ c ∧ c ≤ 90 then c + 32 else c
theorem sg_tx (c : Nat) : sg c = tx [c] := rfl
theorem tx_list (l : List Nat) : (tx l).cps.toList = l := by simp [tx]
theorem tx_len (l : List Nat) : (tx l).length = l.length := by show (tx l).cps.size = l.length; simp [tx]
theorem tx_inj {a b : List Nat} (h : tx a = tx b) : a = b := by rw [← tx_list a, h, tx_list]
theorem sg_inj {a b : Nat} (h : sg a = sg b) : a = b := by
  have := tx_inj (a := [a]) (b := [b]) h
  simpa using this
theorem tx_app (a b : List Nat) : tx a ++ tx b = tx (a ++ b) := by
  show Str.mk (a.toArray ++ b.toArray) = Str.mk (a ++ b).toArray
  simp
theorem sgs_tx (l : List Nat) : sgs (tx l) = l.map sg := by simp [sgs, tx_list]
theorem up1_eq : ∀ c : Nat, c < 128 → up1 c = upc c := by
  have h : ∀ c : Fin 128, up1 c.val = upc c.val := by decide +kernel
  exact fun c hc => h ⟨c, hc⟩
theorem lo1_eq : ∀ c : Nat, c < 128 → lo1 c = lwc c := by
  have h : ∀ c : Fin 128, lo1 c.val = lwc c.val := by decide +kernel
  exact fun c hc => h ⟨c, hc⟩
theorem upper_tx {l : List Nat} (h : ∀ c ∈ l, c < 128) : Txt.upper (tx l) = tx (l.map upc) := by
  rw [upper_ascii (by rw [tx_list]; exact h)]
  show Str.mk (l.toArray.map up1) = Str.mk (l.map upc).toArray
  rw [List.map_toArray, List.map_congr_left fun c hc => up1_eq c (h c hc)]
theorem lower_tx {l : List Nat} (h : ∀ c ∈ l, c < 128) : Txt.lower (tx l) = tx (l.map lwc) := by
  rw [lower_ascii (by rw [tx_list]; exact h)]
  show Str.mk (l.toArray.map lo1) = Str.mk (l.map lwc).toArray
  rw [List.map_toArray, List.map_congr_left fun c hc => lo1_eq c (h c hc)]
theorem swap_sg : ∀ c : Nat, c < 128 → Txt.swapcase (sg c) = sg (swp c) := by
  have h : ∀ c : Fin 128, Txt.swapcase (sg c.val) = sg (swp c.val) := by decide +kernel
  exact fun c hc => h ⟨c, hc⟩
/-! ### walls and sides -/
structure GoodW (l : List Nat) : Prop where
  lo : 1 ≤ l.length
  hi : l.length ≤ 12
  sm : ∀ c ∈ l, 97 ≤ c ∧ c ≤ 122
  rise : l.Pairwise (· < ·)
def sds (l : List Nat) : List Nat := l.map upc ++ l
theorem GoodW.asc {l : List Nat} (g : GoodW l) : ∀ c ∈ l, c < 128 := fun c h => by have := g.sm c h; omega
theorem GoodW.nd {l : List Nat} (g : GoodW l) : l.Nodup := g.rise.imp fun h => Nat.ne_of_lt h
theorem upc_small {c : Nat} (h : 97 ≤ c ∧ c ≤ 122) : upc c = c - 32 := by unfold upc; rw [if_pos h]
theorem sds_shape {l : List Nat} (g : GoodW l) {s : Nat} (h : s ∈ sds l) : (97 ≤ s ∧ s ≤ 122 ∧ s ∈ l) ∨ (65 ≤ s ∧ s ≤ 90 ∧ s + 32 ∈ l) := by
  rcases List.mem_append.mp h with q | q
  · obtain ⟨c, hc, e⟩ := List.mem_map.mp q
    have := g.sm c hc
    rw [upc_small this] at e
    exact .inr ⟨by omega, by omega, by rw [← e, show c - 32 + 32 = c by omega]; exact hc⟩
  · have := g.sm s q
    exact .inl ⟨this.1, this.2, q⟩
theorem sds_of_small {l : List Nat} {s : Nat} (h : s ∈ l) : s ∈ sds l := List.mem_append_right _ h
theorem sds_of_great {l : List Nat} (g : GoodW l) {c : Nat} (h : c ∈ l) : c - 32 ∈ sds l := by
  refine List.mem_append_left _ (List.mem_map.mpr ⟨c, h, upc_small (g.sm c h)⟩)
theorem sds_swp {l : List Nat} (g : GoodW l) {s : Nat} (h : s ∈ sds l) : swp s ∈ sds l := by
  rcases sds_shape g h with ⟨a, b, q⟩ | ⟨a, b, q⟩
  · rw [show swp s = s - 32 by unfold swp; rw [if_pos ⟨a, b⟩]]
    exact sds_of_great g q
  · rw [show swp s = s + 32 by unfold swp; rw [if_neg (by omega), if_pos ⟨a, b⟩]]
    exact sds_of_small q
theorem sds_asc {l : List Nat} (g : GoodW l) {s : Nat} (h : s ∈ sds l) : s < 128 := by
  rcases sds_shape g h with q | q <;> omega
theorem sds_len {l : List Nat} (g : GoodW l) : (sds l).length ≤ 24 := by
  unfold sds
  rw [List.length_append, List.length_map]
  have := g.hi
  omega
theorem sds_nd {l : List Nat} (g : GoodW l) : (sds l).Nodup := by
  refine List.nodup_append.mpr ⟨?_, g.nd, fun a ha b hb e => ?_⟩
  · refine List.pairwise_map.mpr (g.rise.imp_of_mem fun {a b} ha hb h e => ?_)
    have := g.sm a ha
    have := g.sm b hb
    rw [upc_small (by omega), upc_small (by omega)] at e
    omega
  · obtain ⟨c, hc, e2⟩ := List.mem_map.mp ha
    have h1 := g.sm c hc
    have h2 := g.sm b hb
    rw [upc_small h1] at e2
    omega
/-- is_bar -/
def isBar (l b : List Nat) : Bool := match b with
  | [x, y] => decide (x ∈ sds l) && (decide (y ∈ sds l) && decide (lwc x < lwc y))
  | _ => false
theorem lt1 (a b : Nat) : ([a] : List Nat) < [b] ↔ a < b := by simp [List.cons_lt_cons_iff]
/-! ### heaps -/
theorem same_upd {H : Hp} {p : Addr} {o : HO} (h : H p = none) : Same H (upd H p o) := fun b x e => by
  rw [upd_ne (ne_of_none e h)]
  exact e
theorem sm_t {K : PySem.W.Frag} {H H' : Hp} {a : Addr} {xs : List V} (e : Same H H') (h : SqT K H a xs) : SqT K H' a xs := by
  rcases h with (h | ⟨o, h⟩) | h
  · exact .inl (.inl (e _ _ h))
  · exact .inl (.inr ⟨o, e _ _ h⟩)
  · exact .inr h
theorem yes_i {σ : L2.St} {H : Hp} {A B : Hp → Prop} (h : A H) : tYes σ H (fun b H3 => if b = true then A H3 else B H3) := show (if true = true then A H else B H) from iteT h
theorem sm_trans {H H1 H2 : Hp} (a : Same H H1) (b : Same H1 H2) : Same H H2 := fun c o h => b c o (a c o h)
theorem sm_upd {H H1 : Hp} {p : Addr} {o : HO} (e : Same H H1) (h : H1 p = none) : Same H (upd H1 p o) := sm_trans e (same_upd h)
/-- a store at what was new -/
theorem sm_over {H H1 : Hp} {p : Addr} {o : HO} (e : Same H H1) (h : H p = none) : Same H (upd H1 p o) := fun b x hb => by
  rw [upd_ne (ne_of_none hb h)]
  exact e b x hb
theorem sm_l {K : PySem.W.Frag} {H H' : Hp} {a : Addr} {xs : List V} (e : Same H H') (h : SqL K H a xs) : SqL K H' a xs := L2.Same.seq e h
theorem inV_str (x : Str) (ys : List Str) : inV (.str x) (ys.map V.str) = decide (x ∈ ys) := by
  unfold inV
  rw [List.any_map]
  induction ys with
  | nil => rfl
  | cons y r ih =>
    rw [List.any_cons, ih]
    by_cases e : y = x
    · subst e
      simp [eqV]
    · have e2 : ¬ x = y := fun z => e z.symm
      have q : eqV (.str y) (.str x) = false := by
        show (y == x) = false
        simpa using e
      show (eqV (.str y) (.str x) || _) = _
      rw [q]
      simp [e2]
theorem flat_str (ys : List Str) : (ys.map V.str).all flatV = true := by
  rw [List.all_map]
  exact List.all_eq_true.mpr fun _ _ => rfl
theorem mem_sg {c : Nat} {l : List Nat} : sg c ∈ l.map sg ↔ c ∈ l := by
  constructor
  · intro h
    obtain ⟨d, hd, e⟩ := List.mem_map.mp h
    rw [← sg_inj e]
    exact hd
  · exact fun h => List.mem_map.mpr ⟨c, h, rfl⟩
end NC
namespace NC
open PySem PySem.Spec PyProof.Rows L2
def leS (a b : Str) : Prop := a.cps.toList ≤ b.cps.toList
theorem ltc_iff (a b : List Nat) : ltCps a b = decide (a < b) := by
  induction a generalizing b with
  | nil => cases b <;> simp [ltCps]
  | cons x r ih =>
    cases b with
    | nil => simp [ltCps]
    | cons y s =>
      simp only [ltCps, ih, List.cons_lt_cons_iff]
      by_cases h1 : x < y
      · simp [h1]
      · by_cases h2 : x = y
        · subst h2; simp
        · simp [h1, h2]
theorem rise_pw : ∀ (l : List Str) (p : Str), risingS p l = true → (p :: l).Pairwise leS
  | [], p, _ => by simp
  | x :: r, p, h => by
    have h' : (!ltCps x.cps.toList p.cps.toList && risingS x r) = true := h
    rw [Bool.and_eq_true] at h'
    have q := rise_pw r x h'.2
    have hpx : leS p x := by
      have z := h'.1
      rw [ltc_iff] at z
      simpa [leS] using z
    refine List.pairwise_cons.mpr ⟨fun y hy => ?_, q⟩
    rcases List.mem_cons.mp hy with e | e
    · rw [e]; exact hpx
    · exact List.le_trans hpx ((List.pairwise_cons.mp q).1 y e)
theorem sortedS_pw : ∀ l : List Str, sortedS l = true → l.Pairwise leS
  | [], _ => List.Pairwise.nil
  | x :: r, h => rise_pw r x h
theorem str_ext {a b : Str} (h : a.cps.toList = b.cps.toList) : a = b := by
  cases a; cases b
  simp at h
  rw [h]
theorem sortedS_eq {ys zs : List Str} (h : sortedS ys = true) (p : ys.Perm zs) (hz : zs.Pairwise leS) : ys = zs :=
  p.eq_of_pairwise (fun a b _ _ h1 h2 => str_ext (List.le_antisymm h1 h2)) (sortedS_pw ys h) hz
theorem leS_sg {a b : Nat} (h : a ≤ b) : leS (sg a) (sg b) := by
  show ([a] : List Nat) ≤ [b]
  rw [List.cons_le_cons_iff]
  by_cases e : a = b
  · exact .inr ⟨e, List.le_refl _⟩
  · exact .inl (by omega)
theorem GoodW.pw {l : List Nat} (g : GoodW l) : (l.map sg).Pairwise leS := List.pairwise_map.mpr (g.rise.imp fun h => leS_sg (Nat.le_of_lt h))
theorem eqvAll_strs : ∀ xs ys : List Str, PyData.eqvAll (xs.map .str) (ys.map .str) = decide (xs = ys)
  | [], [] => rfl
  | [], _ :: _ => rfl
  | _ :: _, [] => rfl
  | x :: r, y :: s => by
    show ((x == y) && PyData.eqvAll (r.map .str) (s.map .str)) = _
    rw [eqvAll_strs r s]
    by_cases h1 : x = y
    · subst h1
      by_cases h2 : r = s
      · simp [h2]
      · simp [h2]
    · simp [h1]
def okS (x : Str) : Prop := ∀ c ∈ x.cps.toList, c < 128
theorem okS_tx {l : List Nat} (h : ∀ c ∈ l, c < 128) : okS (tx l) := by unfold okS; rw [tx_list]; exact h
theorem okS_sg {c : Nat} (h : c < 128) : okS (sg c) := okS_tx (l := [c]) fun d hd => by simp at hd; omega
theorem strOk_of {x : Str} (h : okS x) : PyData.strOk x = true := by
  unfold PyData.strOk
  rw [← Array.all_toList, List.all_eq_true]
  intro c hc
  have := h c hc
  simp
  omega
theorem canAll_strs : ∀ xs : List Str, (∀ x ∈ xs, okS x) → PyData.canLayAll0 (xs.map .str) = true
  | [], _ => rfl
  | x :: r, h => by
    show (PyData.strOk x && PyData.canLayAll0 (r.map .str)) = true
    rw [strOk_of (h x (List.mem_cons_self ..)), canAll_strs r fun y hy => h y (List.mem_cons_of_mem _ hy)]
    rfl
theorem depAll_strs : ∀ xs : List Str, PyData.depthAll (xs.map .str) = 0
  | [] => rfl
  | x :: r => by
    show max 0 (PyData.depthAll (r.map .str)) = 0
    rw [depAll_strs r]
    rfl
theorem shaped_strs {xs : List Str} (h : ∀ x ∈ xs, okS x) : SeqAt.shaped (.list (xs.map .str)) = true := by
  show (PyData.canLayAll0 (xs.map .str) && decide (PyData.depthAll (xs.map .str) + 1 ≤ 64)) = true
  rw [canAll_strs xs h, depAll_strs]
  rfl
theorem dpAll_strs {K : PySem.W.Frag} {H : Hp} : ∀ xs : List Str, DpAll K H (xs.map V.str) (xs.map .str)
  | [] => .nil
  | x :: r => .cons (.str x) (dpAll_strs r)
end NC
namespace NC
open PySem PySem.Spec PyProof.Rows L2
/-- a dict comprehension over a walk -/
theorem dc_it {J : It} {n : Nat} {G : Hp → Prop} {Y : Nat → Hp → V → Hp → Prop} (wk : Walk J n G Y) {g : TG} {tt : TT} {tk tv : TE} {vs : List Nat} {σ : L2.St} {H1 : Hp} {D : Addr} {Qd : Hp → Prop} (Pv : Nat → Hp → Prop)
    (h0 : Pv 0 (upd H1 D (.dK []))) (hG : ∀ i H, i ≤ n → Pv i H → G H)
    (hs : ∀ i x H H', i < n → Pv i H → Y i H x H' → g x (wipe σ vs) H' fun σ2 H2 => wipe σ2 vs = wipe σ vs ∧ tt σ2 H2 fun b H3 =>
      if b = true then tk σ2 H3 fun y H4 => tv σ2 H4 fun z H5 => ∃ kvs k, y = kV k ∧ H5 D = some (.dK kvs) ∧ kvs.length < sizeLine ∧ Pv (i + 1) (upd H5 D (.dK (putK kvs k z))) else Pv (i + 1) H3) (hd : ∀ H, Pv n H → Qd H) :
    ∃ W : Nat → Nat → Hp → Prop, (∃ m, W 0 m (upd H1 D (.dK []))) ∧ ∀ i m H, W i m H →
      (J.stop i H ∧ Qd H) ∨ (J.go i H ∧ ∃ Nx : Hp → Prop, (∀ H', Nx H' → ∃ m', m' < m ∧ W (i + 1) m' H') ∧ ∀ x H', J.yld i H x H' → g x (wipe σ vs) H' fun σ2 H2 => wipe σ2 vs = wipe σ vs ∧ tt σ2 H2 fun b H3 =>
        if b = true then tk σ2 H3 fun y H4 => tv σ2 H4 fun z H5 => ∃ kvs k, y = kV k ∧ H5 D = some (.dK kvs) ∧ kvs.length < sizeLine ∧ Nx (upd H5 D (.dK (putK kvs k z))) else Nx H3) := by
  refine ⟨fun i m H => m = n - i ∧ i ≤ n ∧ Pv i H, ⟨n, by simp, Nat.zero_le _, h0⟩, ?_⟩
  rintro i m H ⟨rfl, hi, p⟩
  have q := hG i H hi p
  rcases Nat.lt_or_ge i n with hlt | hge
  · exact .inr ⟨wk.goes i H hlt q, Pv (i + 1), fun H' p' => ⟨n - (i + 1), by omega, rfl, hlt, p'⟩, fun x H' y => hs i x H H' hlt p (wk.yields i H x H' hlt q y)⟩
  · obtain rfl : i = n := by omega
    exact .inl ⟨wk.stops H q, hd H p⟩
/-- the inner walk of a comprehension of two -/
theorem in_it {J : It} {n : Nat} {G : Hp → Prop} {Y : Nat → Hp → V → Hp → Prop} (wk : Walk J n G Y) {g1 : TG} {tt1 : TT} {te : TE} {vs1 : List Nat} {σ2 : L2.St} {H4 : Hp} {D : Addr} {Nx : Hp → Prop} (Pv : Nat → Hp → Prop)
    (h0 : Pv 0 H4) (hG : ∀ i H, i ≤ n → Pv i H → G H)
    (hs : ∀ i x H H', i < n → Pv i H → Y i H x H' → g1 x (wipe σ2 vs1) H' fun σ3 H5 => wipe σ3 vs1 = wipe σ2 vs1 ∧ tt1 σ3 H5 fun b H6 =>
      if b = true then te σ3 H6 fun y H7 => ∃ acc, H7 D = some (.lst acc) ∧ acc.length < sizeLine ∧ Pv (i + 1) (upd H7 D (.lst (acc ++ [y]))) else Pv (i + 1) H6) (hd : ∀ H, Pv n H → Nx H) :
    ∃ W1 : Nat → Nat → Hp → Prop, (∃ m, W1 0 m H4) ∧ ∀ j k H, W1 j k H →
      (J.stop j H ∧ Nx H) ∨ (J.go j H ∧ ∃ Nx1 : Hp → Prop, (∀ H', Nx1 H' → ∃ k', k' < k ∧ W1 (j + 1) k' H') ∧ ∀ x H', J.yld j H x H' → g1 x (wipe σ2 vs1) H' fun σ3 H5 => wipe σ3 vs1 = wipe σ2 vs1 ∧ tt1 σ3 H5 fun b H6 =>
        if b = true then te σ3 H6 fun y H7 => ∃ acc, H7 D = some (.lst acc) ∧ acc.length < sizeLine ∧ Nx1 (upd H7 D (.lst (acc ++ [y]))) else Nx1 H6) := by
  refine ⟨fun i m H => m = n - i ∧ i ≤ n ∧ Pv i H, ⟨n, by simp, Nat.zero_le _, h0⟩, ?_⟩
  rintro i m H ⟨rfl, hi, p⟩
  have q := hG i H hi p
  rcases Nat.lt_or_ge i n with hlt | hge
  · exact .inr ⟨wk.goes i H hlt q, Pv (i + 1), fun H' p' => ⟨n - (i + 1), by omega, rfl, hlt, p'⟩, fun x H' y => hs i x H H' hlt p (wk.yields i H x H' hlt q y)⟩
  · obtain rfl : i = n := by omega
    exact .inl ⟨wk.stops H q, hd H p⟩
/-- the outer walk of a comprehension of two (no test on the outer) -/
theorem out_it {J : It} {n : Nat} {G : Hp → Prop} {Y : Nat → Hp → V → Hp → Prop} (wk : Walk J n G Y) {H1 : Hp} {D : Addr} {Qd : Hp → Prop} {B : V → Hp → (Hp → Prop) → Prop} (Pv : Nat → Hp → Prop)
    (h0 : Pv 0 (upd H1 D (.lst []))) (hG : ∀ i H, i ≤ n → Pv i H → G H) (hs : ∀ i x H H', i < n → Pv i H → Y i H x H' → B x H' (Pv (i + 1))) (hd : ∀ H, Pv n H → Qd H) :
    ∃ W : Nat → Nat → Hp → Prop, (∃ m, W 0 m (upd H1 D (.lst []))) ∧ ∀ i m H, W i m H →
      (J.stop i H ∧ Qd H) ∨ (J.go i H ∧ ∃ Nx : Hp → Prop, (∀ H', Nx H' → ∃ m', m' < m ∧ W (i + 1) m' H') ∧ ∀ x H', J.yld i H x H' → B x H' Nx) := by
  refine ⟨fun i m H => m = n - i ∧ i ≤ n ∧ Pv i H, ⟨n, by simp, Nat.zero_le _, h0⟩, ?_⟩
  rintro i m H ⟨rfl, hi, p⟩
  have q := hG i H hi p
  rcases Nat.lt_or_ge i n with hlt | hge
  · exact .inr ⟨wk.goes i H hlt q, Pv (i + 1), fun H' p' => ⟨n - (i + 1), by omega, rfl, hlt, p'⟩, fun x H' y => hs i x H H' hlt p (wk.yields i H x H' hlt q y)⟩
  · obtain rfl : i = n := by omega
    exact .inl ⟨wk.stops H q, hd H p⟩
theorem fold_glue (e : Array Nat) (he : e = #[]) : ∀ (r : List (List Nat)) (acc : Array Nat), (r.map tx).foldl (fun acc p => acc ++ e ++ p.cps) acc = acc ++ r.flatten.toArray
  | [], acc => by simp
  | x :: r, acc => by
    rw [List.map_cons, List.foldl_cons, fold_glue e he r, he]
    simp [tx]
theorem join_tx (xs : List (List Nat)) : Txt.join (Str.ofString "") (xs.map tx) = tx xs.flatten := by
  have e0 : (Str.ofString "").cps = #[] := by decide +kernel
  show (⟨((xs.map tx).drop 1).foldl (fun acc p => acc ++ (Str.ofString "").cps ++ p.cps) ((xs.map tx).headD Str.empty).cps⟩ : Str) = _
  cases xs with
  | nil => rfl
  | cons x r =>
    show (⟨(r.map tx).foldl (fun acc p => acc ++ (Str.ofString "").cps ++ p.cps) x.toArray⟩ : Str) = _
    rw [fold_glue _ e0]
    show Str.mk _ = Str.mk _
    simp
/-- ''.join of signs -/
theorem join_sg (l : List Nat) : Txt.join (Str.ofString "") (l.map sg) = tx l := by
  have e2 : ∀ l : List Nat, (l.map fun c => [c]).flatten = l := fun l => by
    induction l with
    | nil => rfl
    | cons x r ih => simp [ih]
  have e := join_tx (l.map fun c => [c])
  rw [List.map_map, e2] at e
  exact e
end NC
namespace NC
open PySem PySem.Spec PyProof.Rows L2
section
variable {X : Cx}
/-- y = {k: v for ..}, y a plain local: what the comprehension hands on is stored in y's slot -/
theorem ps_setDc {i : Nat} {y : Str} {py : Pos} {kx vx tg iter : Expr} {ifs : List Expr} {scope : Scope} {own : List (Str × Nat)} {pos spos : Pos} {wi : TI} {g : TG} {tt : TT} {tk tv : TE} (calm : X.calm = true) (nd : X.N.Nodup) (at_ : X.N[i]? = some y)
    (loc : X.env.scope.names.lookup y = some .local) (sw : swapsWith (.DictComp kx vx [⟨tg, iter, ifs, 0⟩] scope pos) (some (.Name y py)) spos.line X.env = pure true) (it : PI X tg iter wi) (blk : BlkOk X.N X.env.scope scope own)
    (pg : ∀ (s : Shared) (H : Hp) (C : Addr) (cl : List (Str × Addr)) (fp : List Addr), PG (X.blk s H scope (compEnvC scope cl C X.env) fp) tg g)
    (pt : ∀ (s : Shared) (H : Hp) (C : Addr) (cl : List (Str × Addr)) (fp : List Addr), PTs (X.blk s H scope (compEnvC scope cl C X.env) fp) ifs tt)
    (pk : ∀ (s : Shared) (H : Hp) (C : Addr) (cl : List (Str × Addr)) (fp : List Addr), PE (X.blk s H scope (compEnvC scope cl C X.env) fp) kx tk)
    (pw : ∀ (s : Shared) (H : Hp) (C : Addr) (cl : List (Str × Addr)) (fp : List Addr), PE (X.blk s H scope (compEnvC scope cl C X.env) fp) vx tv) (fo : ∀ x, foldedSetIterable iter X.env x = pure x := by intro _; rfl) :
    PS X (.Assign [.Name y py] (.DictComp kx vx [⟨tg, iter, ifs, 0⟩] scope pos) spos) (tAsg (tDc wi g tt tk tv (own.map (·.2))) (gName i)) := ⟨fun ps t σ H D I w => by
  have made : wpAny (model X.prog X.w) X.A (comprehension (.DictComp kx vx [⟨tg, iter, ifs, 0⟩] scope pos) scope X.env (firstIterPos [⟨tg, iter, ifs, 0⟩] pos) newDict false (eval iter X.env) (some (assign (.Name y py) X.env))) (fun _ v => SP X ps D .next v) X.xe t := by
    refine dc_core (Qf := fun _ v => SP X ps D .next v) calm nd I it blk pg pt pk pw fo (show tDc wi g tt tk tv (own.map (·.2)) σ H (fun x G => gName i x σ G D.nx) from w) fun L C v m G J q cells fr => ?_
    show wpAny (model X.prog X.w) X.A (assign (.Name y py) X.env (.ref L)) _ X.xe v
    refine wpAny_assign_Name (store_ok2 (v := V.ref L) J nd at_ (.inl loc) rfl (fun v2 J2 st => ?_) (.inr loc))
    obtain ⟨b, same, eb⟩ := st
    have apart : C ≠ b := eb.elim (fun z => z ▸ fr.2.1) (fun z z2 => fr.2.2.2.2.1 y b z z2.symm)
    exact ⟨m, cells.sameBut same apart, fun _ keep => ⟨_, G, J2.turned (t' := v2.toks) (fun c o hc e => (keep.2 c hc).trans e) fr.1 fr.2.1 fr.2.2.2.1 fr.2.2.2.2.1 fr.2.2.2.2.2, q⟩⟩
  rw [exec_Assign_Name_used _ _ _ _ sw]
  exact wpAny_bind (wpAny_standAt (wpAny_bind (wpAny_bind (thn made fun _ v r => wpAny_pure (wpAny_pure r)))))⟩
/-- such an assignment swaps where the name is a local of a function and none of the comprehension's own -/
theorem sw_dict {kx vx : Expr} {gs : List Comprehension} {scope : Scope} {pos py : Pos} {y : Str} {l : Nat} {env : Env} (fn : env.scope.kind = .function) (loc : env.scope.names.lookup y = some .local) (row : (py.line == pos.line) = true)
    (out : (scope.names.any fun (n, k) => n == y && (k == .local || k == .cell)) = false) : swapsWith (.DictComp kx vx gs scope pos) (some (.Name y py)) l env = pure true := by
  have k1 : env.blockKind = .function := by
    unfold Env.blockKind
    rw [fn]
    rfl
  unfold swapsWith
  simp only [k1, show env.kindOf y = some .local from loc, out, Expr.pos, row]
  rfl
/-- for x in a name that holds a list or a tuple -/
def iSeq (K : PySem.W.Frag) (tl : TE) : TI := fun σ H R => tl σ H fun x H1 => ∃ a, x = .ref a ∧ ((∃ xs, SqL K H1 a xs) ∧ R (Itl K a) H1 ∨ (∃ xs, SqT K H1 a xs) ∧ R (Itt K a) H1)
theorem pi_seq {tg l : Expr} {i : Nat} (at_ : PE X l (tVar i)) : PI X tg l (iSeq X.K (tVar i)) := ⟨fun ps s σ H R I ⟨v, sv, a, ev, k⟩ => k.elim
  (fun k => (pi_list (tg := tg) at_).run ps s σ H R I ⟨v, sv, a, ev, k⟩) (fun k => (pi_tup (tg := tg) at_).run ps s σ H R I ⟨v, sv, a, ev, k⟩)⟩
end
end NC
/-! except clauses with a name, as many as there are: a caught exception on the ground (Gnd), one clause (gnd_as), none left (gnd_out), the statement (ps_try_manyA) -/
namespace NC
open PySem PySem.Spec PyProof.Rows L2
/-- the ends of a suite whose clause names slot i -/
def endsAs (i : Nat) (D : Ends) : Ends := { nx := fun σ => D.nx (σ.set i none), rt := D.rt, bk := fun σ => D.bk (σ.set i none), ct := fun σ => D.ct (σ.set i none) }
abbrev Clause := Value × Nat × (Addr → Value → Option Addr → TS)
def wManyA (K : PySem.W.Frag) (Wout : WX) (D : Ends) : List Clause → WX
  | [] => Wout
  | c :: r => fun cls d σ H => ∃ b, PySem.W.exmOne K cls c.1 = some b ∧ (b = true → ∀ a, H a = none → c.2.2 a cls d (endsAs c.2.1 D) (σ.set c.2.1 (some (.ref a))) H) ∧ (b = false → wManyA K Wout D r cls d σ H)
/-- the clause 'except x as n' reads c -/
structure AsOk (X : Cx) (x n : Str) (suite : List Stmt) (c : Clause) : Prop where
  slot : X.N[c.2.1]? = some n
  kind : X.env.kindOf n = some .local
  cls : Names X x c.1
  run : ∀ (a : Addr) (oe : Obj) (cls : Value) (d : Option Addr) (pn : List (Addr × Obj)), Zc cls d oe → (∃ vs, oe.data = .fields vs) → PSs (X.suite a ((a, oe) :: pn)) suite (c.2.2 a cls d)
inductive HdsA (X : Cx) : List ExceptHandler → List Clause → Prop
  | nil : HdsA X [] []
  | cons {x n : Str} {c : Clause} {b₀ : Stmt} {suite : List Stmt} {p q : Pos} {hds : List ExceptHandler} {l : List Clause} (ok : AsOk X x n (b₀ :: suite) c) (r : HdsA X hds l) : HdsA X (.ExceptHandler (some (.Name x p)) (some n) (b₀ :: suite) q :: hds) (c :: l)
/-- the exception at a, caught in X's own frame, with the state t -/
structure Gnd (X : Cx) (pins : List (Addr × Obj)) (a : Addr) (cls : Value) (d : Option Addr) (σ : L2.St) (H : Hp) (B : Heap) (t0 t : Shared) : Prop where
  own : X.stack = X.env :: X.outer
  frm : X.env.frame = some X.env.locals
  was : Inv X pins σ H t0
  low : ∀ b o, t0.heap.get? b = some o → b ∉ frs X.stack → B.get? b = some o
  up : t0.heap.UpToSlots t.heap
  new : H a = none
  io : t.os = t0.os
  gen : AllBare t.gens
  fly : HandSPX.FlyingZ B (X.env :: X.outer) a (Zc cls d) t.heap
section
variable {X : Cx} {pins : List (Addr × Obj)} {a : Addr} {cls : Value} {d : Option Addr} {σ : L2.St} {H : Hp} {B : Heap} {t0 t : Shared} {D : Ends}
theorem Gnd.to (G : Gnd X pins a cls d σ H B t0 t) {h : Heap} (f : HandSPX.FlyingZ B (X.env :: X.outer) a (Zc cls d) h) (u : t.heap.UpToSlots h) : Gnd X pins a cls d σ H B t0 { t with heap := h } := { G with up := G.up.trans u, fly := f }
theorem Gnd.now (G : Gnd X pins a cls d σ H B t0 t) : Inv X pins σ H t := G.was.landed G.low G.fly.1 G.up G.io G.gen
/-- the exception is no frame -/
theorem Gnd.off (G : Gnd X pins a cls d σ H B t0 t) : a ∉ frs (X.env :: X.outer) := fun z => by
  obtain ⟨o, vs, g1, _, g2⟩ := G.fly.there
  obtain ⟨_, o2, g3, g4⟩ := G.fly.2.2.1.mem z
  exact g4 _ ((Option.some.inj (g3.symm.trans g1)) ▸ g2)
/-- the state in the clause's suite -/
theorem Gnd.inS (G : Gnd X pins a cls d σ H B t0 t) : ∃ oe, Zc cls d oe ∧ (∃ vs, oe.data = .fields vs) ∧ t.heap.get? a = some oe ∧ Inv (X.suite a ((a, oe) :: (X.pn ++ pins))) [] σ H t := by
  obtain ⟨o, vs, g1, g2, g3⟩ := G.fly.there
  refine ⟨o, g2, ⟨vs, g3⟩, g1, G.now.suite g1 g3 G.new (fun z => G.off ?_) fun z => G.off ?_⟩
  · exact List.mem_filterMap.mpr ⟨_, .head _, G.frm.trans (congrArg some z.symm)⟩
  · exact let ⟨e, m, q⟩ := List.mem_filterMap.mp z; List.mem_filterMap.mpr ⟨e, .tail _ m, q⟩
/-- no clause is left: it flies on -/
theorem gnd_out {Wout : WX} (tk : Takes X Wout) (G : Gnd X pins a cls d σ H B t0 t) (w : Wout cls d σ H) : wpAny (model X.prog X.w) X.A (handleBy (.ref a) X.env []) (SP X pins D) X.xe t := by
  have away : wpAny (model X.prog X.w) X.A (setFlight (.ref a) (some X.env.locals)) (fun _ v => wpAny (model X.prog X.w) X.A (throw (.ref a) : Sem Flow) (SP X pins D) X.xe v) X.xe t :=
    HandSPX.setFlight_upZ G.fly fun g held u => wpAny_throw (tk _ _ ⟨a, B, t0, pins, σ, H, cls, d, rfl, G.was, G.low, G.up.trans u, .inr (.inr (G.own ▸ held)), G.new, G.io, G.gen, w⟩)
  rw [← G.frm] at away
  obtain ⟨_, _, _, o, vs, tb, _, _, g1, _, g2, g3, _⟩ := G.fly
  refine wpAny_handleBy_nil ?_
  unfold PySem.passOn
  refine wpAny_bind (wpAny_field g1 g2 g3 ?_)
  have nn : ¬ (Value.ref tb == Value.none) = true := by simp
  rw [if_neg nn]
  first | exact wpAny_bind (wpAny_pure (wpAny_bind away)) | exact wpAny_bind away
/-- one clause: its suite, or what follows it -/
theorem gnd_as {x n : Str} {c : Clause} {b₀ : Stmt} {suite : List Stmt} {p q : Pos} {hds : List ExceptHandler} (hN : X.N.Nodup) (C : AsOk X x n (b₀ :: suite) c) (G : Gnd X pins a cls d σ H B t0 t) {b : Bool} (m : PySem.W.exmOne X.K cls c.1 = some b)
    (yes : b = true → c.2.2 a cls d (endsAs c.2.1 D) (σ.set c.2.1 (some (.ref a))) H) (no : b = false → wpAny (model X.prog X.w) X.A (handleBy (.ref a) X.env hds) (SP X pins D) X.xe t) :
    wpAny (model X.prog X.w) X.A (handleBy (.ref a) X.env (.ExceptHandler (some (.Name x p)) (some n) (b₀ :: suite) q :: hds)) (SP X pins D) X.xe t := by
  obtain ⟨oe, z1, z2, z3, I⟩ := G.inS
  have lk : PySem.W.Looks (model X.prog X.w) t.heap (typeOf (.ref a)) cls := fun _ _ _ _ k r => wpAny_typeOf_ref (k _ _ z3) (z1.1.symm ▸ r)
  have nm : ∀ {Q E : Value → Shared → Prop}, Q c.1 t → wpAny (model X.prog X.w) (X.A.mark (some (.ref a))) (eval (.Name x p) X.env) Q E t := fun {Q E} r => C.cls.2.2.elim
    (fun g => ld_glob (X := X.suite a ((a, oe) :: (X.pn ++ pins))) I C.cls.1 g r C.cls.2.1) (fun g => ld_blt (X := X.suite a ((a, oe) :: (X.pn ++ pins))) I C.cls.1 g.1 g.2.1 r g.2.2 C.cls.2.1)
  refine wpAny_handleBy_cons (codeAny_handlers_test (nm ((PySem.W.exm_one (M := model X.prog X.w) G.now.kIn lk m).here ?_))) nofun
  cases b with
  | false => exact no rfl
  | true =>
    refine codeAny_handlers_suite_as (HandSPX.lands_againZ G.fly fun g f u => ?_)
    obtain ⟨o2, y1, y2, _, I2⟩ := (G.to f u).inS
    refine store_ok (X := X.suite a ((a, o2) :: (X.pn ++ pins))) (v := .ref a) I2 hN C.slot (.inl C.kind) rfl (fun v I3 => ?_) (.inr C.kind)
    have gone : ∀ {τ : L2.St} {G' : Hp} {v' : Shared} {R : Shared → Prop}, Inv (X.suite a ((a, o2) :: (X.pn ++ pins))) [] τ G' v' → (∀ v2, Inv X pins (τ.set c.2.1 none) G' v2 → R v2) → wpAny (model X.prog X.w) X.A (do bindName X.env n .none; unbindBehindTheSuite X.env n q) (fun _ v2 => R v2) X.xe v' :=
      fun k r => gone_ok (k.unsuite G.was.ok) hN C.slot C.kind r
    refine wpAny_mono ((C.run a o2 cls d (X.pn ++ pins) y1 y2).run [] v _ H _ I3 (yes rfl)) (fun fl v' r => ?_) fun _ _ e => e.elim
    match fl, r with
    | .next, ⟨τ, G', k, r⟩ => exact gone k fun v2 k2 => ⟨_, G', k2, r⟩
    | .brk, ⟨τ, G', k, r⟩ => exact gone k fun v2 k2 => ⟨_, G', k2, r⟩
    | .cont, ⟨τ, G', k, r⟩ => exact gone k fun v2 k2 => ⟨_, G', k2, r⟩
    | .ret _, ⟨y, τ, G', k, rl, r⟩ => exact gone k fun v2 k2 => ⟨y, _, G', k2, rl, r⟩
theorem gnd_all {Wout : WX} (hN : X.N.Nodup) (tk : Takes X Wout) (G : Gnd X pins a cls d σ H B t0 t) : ∀ {hds : List ExceptHandler} {l : List Clause}, HdsA X hds l → wManyA X.K Wout D l cls d σ H → wpAny (model X.prog X.w) X.A (handleBy (.ref a) X.env hds) (SP X pins D) X.xe t
  | _, _, .nil, w => gnd_out tk G w
  | _, _, .cons ok r, ⟨_, m, yes, no⟩ => gnd_as hN ok G m (fun e => yes e a G.new) fun e => gnd_all hN tk G r (no e)
theorem ps_try_manyA {body : List Stmt} {h₀ : ExceptHandler} {hds : List ExceptHandler} {l : List Clause} {pos : Pos} {tb : WX → TS} {Wout : WX} (own : X.stack = X.env :: X.outer) (frm : X.env.frame = some X.env.locals) (hN : X.N.Nodup) (tk : Takes X Wout)
    (bd : ∀ (W : WX) (pn : List (Addr × Obj)) (xe : Value → Shared → Prop), Takes (X.tr pn xe) W → PSs (X.tr pn xe) body (tb W)) (cl : HdsA X (h₀ :: hds) l) : PS X (.Try body (h₀ :: hds) [] [] pos) (fun D σ H => tb (wManyA X.K Wout D l) D σ H) := by
  refine ⟨fun ps s σ0 H0 D I h => wpAny_Try_except (wpAny_mono ((bd _ (X.pn ++ ps) _ ?_).run [] s σ0 H0 D (I.toTry _) h) (fun fl v r => ?_) fun _ _ e => e)⟩
  · rintro u v ⟨a, B, t0, _, σ, H, cls, d, rfl, J, low, up, sky, new, io, gen, w⟩
    have fr : X.A.frames = some (X.env :: X.outer) := I.ok.frames.trans (congrArg some own)
    refine Sky.land (Z := Zc cls d) Zc.steady fr frm (B := B) (own ▸ sky) fun g f u => ?_
    exact gnd_all hN tk (show Gnd X ps a cls d σ H B t0 { v with heap := g } from ⟨own, frm, J.ofTry I.ok, low, up.trans u, new, io, gen, f⟩) cl w
  · match fl, r with
    | .next, ⟨τ, G', k, r⟩ => exact wpAny_execs_nil ⟨τ, G', k.ofTry I.ok, r⟩
    | .brk, ⟨τ, G', k, r⟩ => exact ⟨τ, G', k.ofTry I.ok, r⟩
    | .cont, ⟨τ, G', k, r⟩ => exact ⟨τ, G', k.ofTry I.ok, r⟩
    | .ret _, ⟨y, τ, G', k, rl, r⟩ => exact ⟨y, τ, G', k.ofTry I.ok, rl, r⟩
end
end NC
/-! what is handed to a def and called there, at any depth: Acts (f, called with nothing, does tl), Uses (a def that is handed such an f) -/
namespace NC
open PySem PySem.Spec PyProof.Rows L2
theorem un_join {fs gs : List Addr} {H0 H1 H2 : Hp} {h0 h1 h2 : Heap} (a : Un fs [] H0 H1 h0 h1) (b : Un gs [] H1 H2 h1 h2) (y : ∀ c ∈ gs, c ∈ fs ∨ h0.get? c = none) : Un fs [] H0 H2 h0 h2 where
  keep := fun c o g n nf nx => b.keep c o (a.keep c o g n nf nx) (a.free c o g n nx) (fun m => (y c m).elim nf fun z => by rw [g] at z; cases z) nx
  slot := fun c o g n mf nx => by
    obtain ⟨_, g1⟩ := a.slot c o g n mf nx
    obtain ⟨sl, g2⟩ := b.any g1 (a.free c o g n nx) nx
    exact ⟨sl, g2⟩
  free := fun c o g n nx => let ⟨o1, g1⟩ := a.there c o g nx; b.free c o1 g1 (a.free c o g n nx) nx
  there := fun c o g nx => let ⟨o1, g1⟩ := a.there c o g nx; b.there c o1 g1 nx
  tups := fun c xs g => b.tups c xs (a.tups c xs g)
  frzs := fun c o u g => b.frzs c o u (a.frzs c o u g)
  tbls := fun c ps g => by
    obtain ⟨m, g1⟩ := a.tbls c ps g
    obtain ⟨m', g2⟩ := b.tbls c _ g1
    exact ⟨m ++ m', g2.trans (by rw [Array.append_assoc])⟩
/-- f, called with nothing, does tl as long as J; fs H0 h0: the frames and the heaps that this was said of -/
structure Acts (P : Program) (w : World) (K : PySem.W.Frag) (mg : Str → Option Value) (B : Heap) (k : Nat) (f : Addr) (J : Hp → Prop) (fs : List Addr) (H0 : Hp) (h0 : Heap) (tl : XK → Hp → VK → Prop) : Prop where
  obj : ∀ (G : Hp) (s : Shared), Un fs [] H0 G h0 s.heap → HOk P w G s.heap → J G → PySem.W.FnAt f s.heap
  run : ∀ (A : Around) (out : List Env) (s : Shared) (G : Hp) (Q : VK) (E : XK), Room (k + 1) A → Env0 P w K mg B A out s G → Un fs [] H0 G h0 s.heap → J G → tl E G Q →
    codeAny (model P w) A (.call (.ref f) ⟨[], []⟩) (CR (L2.CX P w) out P w G s Q E) s
section
variable {P : Program} {w : World} {K : PySem.W.Frag} {mg : Str → Option Value} {B : Heap} {k j : Nat} {f g : Addr} {J : Hp → Prop} {fs gs : List Addr} {H0 H1 : Hp} {h0 h1 : Heap} {tl : XK → Hp → VK → Prop}
theorem Acts.move (a : Acts P w K mg B k f J fs H0 h0 tl) (u : Un fs [] H0 H1 h0 h1) (y : ∀ c ∈ gs, c ∈ fs ∨ h0.get? c = none) : Acts P w K mg B k f J gs H1 h1 tl :=
  ⟨fun G s v => a.obj G s (un_join u v y), fun A out s G Q E r e v => a.run A out s G Q E r e (un_join u v y)⟩
theorem Acts.mono {i : Nat} (a : Acts P w K mg B k f J fs H0 h0 tl) (l : k ≤ i) : Acts P w K mg B i f J fs H0 h0 tl := ⟨a.obj, fun A out s G Q E r => a.run A out s G Q E (r.mono (by omega))⟩
/-- from a def's beginning to where it stands -/
theorem Acts.here {Z : Cx} {pins : List (Addr × Obj)} {σ : L2.St} {H : Hp} {s : Shared} (I : Inv Z pins σ H s) (ex : Z.ex = []) (a : Acts Z.prog Z.w Z.K Z.mg Z.base k f J Z.fs Z.H_0 Z.s_0.heap tl) : Acts Z.prog Z.w Z.K Z.mg Z.base k f J (frs Z.stack) H s.heap tl :=
  a.move (ex ▸ I.base) fun c m => (List.mem_cons.mp (I.stkSub c m)).elim (fun e => .inr (by rw [e]; exact Heap.get?_none_of_le I.ok.above)) .inl
/-- the def at g, handed an f that does tl, does what sp says -/
def Uses (P : Program) (w : World) (K : PySem.W.Frag) (mg : Str → Option Value) (B : Heap) (k j : Nat) (g : Addr) (fd : FuncData) (ps : List Str) (sp : Addr → (XK → Hp → VK → Prop) → List V → Hp → VK → Prop) : Prop :=
  ∀ (A : Around) (out : List Env) (s : Shared) (H : Hp) (args : Args) (us : List Value) (vs : List V) (Q : VK) (f : Addr) (J : Hp → Prop) (tl : XK → Hp → VK → Prop), Room j A → Env0 P w K mg B A out s H → BindsTo s fd args (ps.zip us) → Vals vs us → vs.length = ps.length →
    Acts P w K mg B k f J (frs out) H s.heap tl → J H → sp f tl vs H Q → codeAny (model P w) A (.call (.ref g) args) (CR C8.CX0 out P w H s Q C8.E0) s
variable {fd : FuncData} {ps : List Str} {sp : Addr → (XK → Hp → VK → Prop) → List V → Hp → VK → Prop}
theorem uses_of {x qual : Str} {st : Stmt} {N : List Str} (F : Fun K x qual st g fd) (S : FnScope N ps (defScope st))
    (body : ∀ (cdv : Value) (A : Around) (out : List Env) (s : Shared) (H : Hp) (vs : List V) (Q : VK) (f : Addr) (J : Hp → Prop) (tl : XK → Hp → VK → Prop), Room j (A.deeper (envOfC qual (defScope st) s.heap.objs.size g cdv)) → Acts P w K mg B k f J (frs out) H s.heap tl → J H → sp f tl vs H Q →
      ∃ t, PSs (cxOf C8.CX0 P w K mg B N qual (defScope st) g cdv A out s H C8.E0).nox (defBody st) t ∧ t { nx := fun _ G => Q .non G, rt := Q } (L2.start N vs) H) : Uses P w K mg B k (j + 1) g fd ps sp := by
  obtain ⟨oc, od, kV, doc, pm, an, cd, ct, osl, rfl, lk, cc⟩ := F.ex
  intro A out s H args us vs Q f J tl r e0 b v l a jH h
  refine LamX.run_ofS (N := N) (us := us) lk cc S r e0 b v l fun r2 => ?_
  obtain ⟨t, d, q⟩ := body cd A out s H vs Q f J tl r2 a jH h
  exact ⟨t, d.nox, q⟩
end
section
variable {Z : Cx} {k j i : Nat} {f g : Addr} {J : Hp → Prop} {tl : XK → Hp → VK → Prop} {fd : FuncData} {ps : List Str} {sp : Addr → (XK → Hp → VK → Prop) → List V → Hp → VK → Prop} {x y : Str} {p p2 pos : Pos} {e : Expr} {es : List Expr} {t : TA} {E : XK}
theorem end_of {CX : CXT} {pins : List (Addr × Obj)} {σ : L2.St} {H : Hp} {s s' : Shared} {Q : VK} {r : Result} (I : Inv Z pins σ H s) (px : Passes CX Z E) (h : CR CX Z.stack Z.prog Z.w H s Q E r s') : wants (EP Z pins σ Q) Z.xe r s' := by
  match r, h with
  | .ok (.ret _), h => exact I.after h
  | .error _, h => exact px _ _ _ _ _ _ I h
/-- y(), y holding such an f -/
theorem pe_thunk (a : Acts Z.prog Z.w Z.K Z.mg Z.base k f J Z.fs Z.H_0 Z.s_0.heap tl) (ex : Z.ex = []) (px : Passes (L2.CX Z.prog Z.w) Z E) (r : Room (k + 1) Z.A) (at_ : PE Z (.Name y p) (tVar i)) :
    PE Z (.Call (.Name y p) [] [] p2) (fun σ H Q => σ[i]? = some (some (.ref f)) ∧ J H ∧ tl E H Q) := ⟨fun pins s σ H Q I ⟨sv, jH, h⟩ => by
  refine wpAny_Call_Name_kw (thn (at_.run pins s σ H (fun v G => v = .ref f ∧ J G ∧ tl E G Q) I ⟨_, sv, rfl, jH, h⟩) ?_)
  rintro u s1 ⟨v, G, I1, rv, rfl, jG, hG⟩
  obtain rfl : u = Value.ref f := rv
  have un : Un Z.fs [] Z.H_0 G Z.s_0.heap s1.heap := ex ▸ I1.base
  exact PySem.W.callWith_F0 (a.obj G s1 un I1.hok jG) (wpAny_call (codeAny_mono (a.run _ _ _ _ Q E r I1.env0 un jG hG) fun _ _ q => end_of I1 px q))⟩
/-- x(e, ..), x a def that is handed such an f -/
theorem pe_uses (U : Uses Z.prog Z.w Z.K Z.mg Z.base k j g fd ps sp) (r : Room j Z.A) (gl : Gl Z x) (hm : Z.mg x = some (.ref g)) (kp : PySem.W.keepIn Z.K (.ref g) = true) (b : Binds Z.K fd ps []) (ha : PA Z (e :: es) t)
    (a : Acts Z.prog Z.w Z.K Z.mg Z.base k f J Z.fs Z.H_0 Z.s_0.heap tl) (ex : Z.ex = []) (db : (x == ("__debug__" : Str)) = false := by decide) (h1 : starEach (e :: es) Z.env = (false, eval e Z.env) :: starEach es Z.env := by rfl) (h2 : (backTo pos (starEach es Z.env)).any (·.1) = false := by rfl) :
    PE Z (.Call (.Name x p) (e :: es) [] pos) (fun σ H Q => t σ H fun vs G => vs.length = ps.length ∧ J G ∧ sp f tl vs G Q) := ⟨fun pins s σ H Q I h => by
  refine wpAny_Call_Name_kw (ld_glob I gl hm (PySem.W.callWith_K (h₀ := Z.base) I.mod.kin kp (thn (ha.run pos pins s σ H _ I h) ?_) h1 h2) db)
  rintro us s1 ⟨vs, G, I1, v, l, jG, hG⟩
  have l2 : us.length = ps.length := v.length ▸ l
  have bt : BindsTo s1 fd ⟨us, []⟩ (ps.zip us) := by
    have z := b s1 us I1.kIn (by rw [List.append_nil]; exact l2)
    rw [List.append_nil] at z
    exact z
  exact ⟨I1.kIn, wpAny_call (codeAny_mono (U _ _ _ _ _ us vs Q f J tl r I1.env0 bt v l (a.here I1 ex) jG hG) fun _ _ q => end_of (CX := C8.CX0) (E := C8.E0) I1 (fun _ _ _ _ _ _ _ z => z.elim) q)⟩⟩
end
/-! ### a lambda without parameters -/
section
variable {X : Cx} {pins : List (Addr × Obj)} {σ : L2.St} {H : Hp} {s : Shared} {params : Arguments} {body : Expr} {scope : Scope} {f c' : Addr} {pm ctv : Value} {k : Nat} {t : XK → TE}
theorem acts_lam (I : Inv X pins σ H s) (L : LamX.LamS X.env.scope scope) (hf : s.heap.get? f = some (PySem.W.kla_obj "<lambda>" (X.env.qual ++ "<lambda>") params body scope (cloFrom X.env.cells scope.names []) pm c' ctv)) (nf : H f = none) (off : f ∉ frs X.stack)
    (nb : bindArgs (PySem.W.kla_fn "<lambda>" (X.env.qual ++ "<lambda>") params body scope (cloFrom X.env.cells scope.names []) pm (.ref c') ctv) ⟨[], []⟩ = pure [])
    (pb : ∀ (A : Around) (out : List Env) (s : Shared) (H : Hp) (E : XK), Room k (A.deeper (LamX.lamEnv X scope s.heap.objs.size f c')) → PE (LamX.lamCx X A out s H E scope f c') body (t E)) :
    Acts X.prog X.w X.K X.mg X.base k f (fun G => G c' = some (LamX.CodeO c' (X.env.qual ++ "<lambda>"))) (frs X.stack) H s.heap (fun E G Q => t E σ G Q) := by
  have stays : ∀ {G : Hp} {h : Heap}, Un (frs X.stack) [] H G s.heap h → h.get? f = _ := fun u => u.keep f _ hf nf off nofun
  refine ⟨fun G v u _ _ => ⟨_, _, _, _, stays u⟩, fun A out v G Q E r e0 u jG h => ?_⟩
  obtain ⟨⟨co, fl, tk, c1, c2, c3⟩, _⟩ := e0.hok c' _ jG
  refine PySem.W.kla_callFunE r.depth (stays u) rfl L.co L.gen rfl ⟨c', co, fl, tk, rfl, c1, c2, c3⟩ ?_
  rw [nb]
  have lim : v.heap.NoLimit := e0.mod.nolimit.keeps fun b o z => (e0.bs b o z).1
  refine wpAny_pure (wpAny_newFunctionEnv (fun y m => (L.own y m).2) nofun (fun h1 ns sb => ⟨lim.fresh _ sb, ?_⟩) L.kind)
  have old : ∀ b o, v.heap.get? b = some o → h1.get? b = some o := fun b o z => sb.extBut b o (Nat.ne_of_lt (Heap.lt_size z)) (Heap.get?_push_of_some _ z)
  have V := LamX.lam_start2 (E := E) (f := f) (c' := c') (tk := v.toks + ([] : List (Str × Value)).length) I L e0 r.hd u ns old
  refine PySem.W.kla_codeExpr (wpAny_mono ((pb A out v G E (r.deeper _)).run [] _ σ G Q V h) ?_ fun _ _ z => z)
  rintro u2 v2 ⟨y, G2, V2, ry, qy⟩
  exact ⟨y, G2, V2.os, V2.bare, V2.base, V2.hok, ry, qy⟩
end
section
variable {X : Cx} {T : List (Addr × Str)} {c P g : Addr} {params : Arguments} {body : Expr} {scope : Scope} {k j : Nat} {t : XK → TE} {es : List Expr} {vs0 : List V} {fd : FuncData} {ps : List Str} {sp : Addr → (XK → Hp → VK → Prop) → List V → Hp → VK → Prop} {x : Str} {p lpos pos : Pos}
def tLamU (T : List (Addr × Str)) (sp : Addr → (XK → Hp → VK → Prop) → List V → Hp → VK → Prop) (vs0 : List V) (t : XK → TE) : TE := fun σ H Q => LamX.Tabs T H ∧ ∀ f H1, LamX.ExtN H H1 → LamX.Tabs T H1 → sp f (fun E G R => t E σ G R) (.ref f :: vs0) H1 Q
/-- x(lambda: body, constants ..) -/
theorem pe_lamU (U : Uses X.prog X.w X.K X.mg X.base k j g fd ps sp) (r : Room j X.A) (gl : Gl X x) (hm : X.mg x = some (.ref g)) (kp : PySem.W.keepIn X.K (.ref g) = true) (b : Binds X.K fd ps []) (ln : vs0.length + 1 = ps.length) (ha : PA X es (fun _ H Q => Q vs0 H))
    (TB : LamX.TabB X.base X.mg c P) (hc : X.env.code = .ref c) (hT : (P, X.env.qual ++ "<lambda>") ∈ T) (hu : ∀ p ∈ T, p.1 = P → p.2 = X.env.qual ++ "<lambda>") (L : LamX.LamS X.env.scope scope) (nd : defaultsOf params X.env = ([], []))
    (nb : ∀ (q : Str) (cl : List (Str × Addr)) (pm cv ctv : Value), bindArgs (PySem.W.kla_fn "<lambda>" q params body scope cl pm cv ctv) ⟨[], []⟩ = pure [])
    (pb : ∀ (A : Around) (out : List Env) (s : Shared) (H : Hp) (E : XK) (f c' : Addr), Room k (A.deeper (LamX.lamEnv X scope s.heap.objs.size f c')) → PE (LamX.lamCx X A out s H E scope f c') body (t E)) (ex : X.ex = [])
    (db : (x == ("__debug__" : Str)) = false := by decide) (h1 : starEach (.Lambda params body scope lpos :: es) X.env = (false, eval (.Lambda params body scope lpos) X.env) :: starEach es X.env := by rfl) (h2 : (backTo pos (starEach es X.env)).any (·.1) = false := by rfl) :
    PE X (.Call (.Name x p) (.Lambda params body scope lpos :: es) [] pos) (tLamU T sp vs0 t) := ⟨fun pins s σ H Q I ⟨tb, h⟩ => by
  refine wpAny_Call_Name_kw (ld_glob I gl hm (PySem.W.callWith_K (h₀ := X.base) I.mod.kin kp ?_ h1 h2) db)
  rw [h1]
  refine Calls.spliced_cons (LamX.lam_make2 I TB hc hT hu tb nd (L.has I.ok) fun f c' pm ctv H1 s1 I1 eN T1 hf nf off jc => ?_)
  have offs : f ∉ X.fs := fun z => off (I1.ok.stk.elim (fun e => e ▸ z) fun e => by
    rw [e.1]
    exact let ⟨v, m, q⟩ := List.mem_filterMap.mp z; List.mem_filterMap.mpr ⟨v, .tail _ m, q⟩)
  have nl : f ≠ X.env.locals := fun z => by
    obtain ⟨m, ⟨o, es, ep, ho, hd, _⟩, _⟩ := I1.loc
    rw [← z, hf] at ho
    cases ho
    cases hd
  have I2 : Inv X ((f, _) :: pins) σ H1 s1 := I1.pins_of fun q m => (List.mem_cons.mp m).elim (fun e => by rw [e]; exact ⟨hf, nf, nl, offs, nofun⟩) fun m2 => I1.pin q (List.mem_append_right _ m2)
  refine thn (ha.run pos _ s1 σ H1 (fun vs G => vs = vs0 ∧ G = H1) I2 ⟨rfl, rfl⟩) ?_
  rintro us s2 ⟨vs, G, I3, v, rfl, rfl⟩
  obtain ⟨hf3, _⟩ := I3.pin (f, _) (List.mem_append_right _ (.head _))
  have I4 : Inv X pins σ G s2 := I3.pins_of fun q m => I3.pin q (List.mem_append_right _ (.tail _ m))
  have l2 : (Value.ref f :: us).length = ps.length := by rw [List.length_cons, ← v.length]; exact ln
  have bt : BindsTo s2 fd ⟨.ref f :: us, []⟩ (ps.zip (.ref f :: us)) := by
    have z := b s2 (.ref f :: us) I4.kIn (by rw [List.append_nil]; exact l2)
    rw [List.append_nil] at z
    exact z
  have a := acts_lam (k := k) (t := t) I4 L hf3 nf off (nb _ _ _ _ _) fun A out s H E => pb A out s H E f c'
  exact ⟨I4.kIn, wpAny_call (codeAny_mono (U _ _ _ _ _ (.ref f :: us) (.ref f :: vs) Q f _ _ r I4.env0 bt (.cons rfl v) ln a jc (h f G eN T1)) fun _ _ q => end_of (CX := C8.CX0) (E := C8.E0) I4 (fun _ _ _ _ _ _ _ z => z.elim) q)⟩⟩
end
end NC
/-! except (A, B, C) as n -/
namespace NC
open PySem PySem.Spec PyProof.Rows L2
theorem frames_kept {h h' B : Heap} (k : ∀ b o, h.get? b = some o → h'.get? b = some o) : ∀ {l : List Env}, h.FunFrames B l → h'.FunFrames B l
  | [], _ => trivial
  | _ :: _, ⟨a, ⟨L, o, b, c, d, e⟩, r⟩ => ⟨a, ⟨L, o, b, c, k _ _ d, e⟩, frames_kept k r⟩
theorem fly_kept {h h' B : Heap} {l : List Env} {a : Addr} {Z : Obj → Prop} (k : ∀ b o, h.get? b = some o → h'.get? b = some o) (x : HandSPX.FlyingZ B l a Z h) : HandSPX.FlyingZ B l a Z h' := by
  obtain ⟨s, n, fr, oe, vs, T, oT, ts, e1, e2, e3, e4, e5, e6, e7, e8, e9⟩ := x
  exact ⟨fun b o e => k b o (s b o e), n, frames_kept k fr, oe, vs, T, oT, ts, k _ _ e1, e2, e3, e4, e5, e6, k _ _ e7, e8, e9⟩
section
variable {X : Cx} {pins : List (Addr × Obj)} {a : Addr} {cls : Value} {d : Option Addr} {σ : L2.St} {H : Hp} {B : Heap} {t0 t : Shared} {D : Ends}
def wTup (K : PySem.W.Frag) (Wout : WX) (D : Ends) (cs : List Value) (i : Nat) (ts : Addr → Value → Option Addr → TS) : WX := fun cls d σ H => ∃ b, PySem.W.exmAny K cls cs = some b ∧
  (b = true → ∀ a, H a = none → ts a cls d (endsAs i D) (σ.set i (some (.ref a))) H) ∧ (b = false → Wout cls d σ H)
theorem gnd_tup {Wout : WX} {n x1 x2 x3 : Str} {c1 c2 c3 : Value} {i kk : Nat} {ts : Addr → Value → Option Addr → TS} {b₀ : Stmt} {suite : List Stmt} {p1 p2 p3 pt q : Pos} (hN : X.N.Nodup) (slot : X.N[i]? = some n) (kind : X.env.kindOf n = some .local)
    (n1 : Names X x1 c1) (n2 : Names X x2 c2) (n3 : Names X x3 c3) (run : ∀ (a : Addr) (oe : Obj) (cls : Value) (d : Option Addr) (pn : List (Addr × Obj)), Zc cls d oe → (∃ vs, oe.data = .fields vs) → PSs (X.suite a ((a, oe) :: pn)) (b₀ :: suite) (ts a cls d))
    (tk : Takes X Wout) (G : Gnd X pins a cls d σ H B t0 t) (w : wTup X.K Wout D [c1, c2, c3] i ts cls d σ H) :
    wpAny (model X.prog X.w) X.A (handleBy (.ref a) X.env [.ExceptHandler (some (.Tuple [.Name x1 p1, .Name x2 p2, .Name x3 p3] kk pt)) (some n) (b₀ :: suite) q]) (SP X pins D) X.xe t := by
  obtain ⟨b, m, yes, no⟩ := w
  obtain ⟨oe, z1, z2, z3, I⟩ := G.inS
  have nm : ∀ {x : Str} {c : Value} {p : Pos} {Q E : Value → Shared → Prop}, Names X x c → Q c t → wpAny (model X.prog X.w) (X.A.mark (some (.ref a))) (eval (.Name x p) X.env) Q E t := fun {x c p Q E} ok r => ok.2.2.elim
    (fun g => ld_glob (X := X.suite a ((a, oe) :: (X.pn ++ pins))) I ok.1 g r ok.2.1) (fun g => ld_blt (X := X.suite a ((a, oe) :: (X.pn ++ pins))) I ok.1 g.1 g.2.1 r g.2.2 ok.2.1)
  have kp : ∀ b o, t.heap.get? b = some o → (t.heap.push { cls := .type "tuple", data := .seq [c1, c2, c3].toArray }).get? b = some o := fun _ _ z => Heap.get?_push_of_some _ z
  have G1 := G.to (fly_kept kp G.fly) (.of_keeps kp)
  have lk : PySem.W.Looks (model X.prog X.w) (t.heap.push { cls := .type "tuple", data := .seq [c1, c2, c3].toArray }) (typeOf (.ref a)) cls := fun _ _ _ _ k r => wpAny_typeOf_ref (k _ _ (kp _ _ z3)) (z1.1.symm ▸ r)
  refine wpAny_handleBy_cons (codeAny_handlers_test (wpAny_Tuple (wpAny_items_cons (nm n1 (wpAny_items_cons (nm n2 (wpAny_items_cons (nm n3 (wpAny_items_nil ⟨by size_fits, ?_⟩)))))))) ) nofun
  refine (PySem.W.exm_tup3 (M := model X.prog X.w) (G.now.kIn.keeps kp) lk (Heap.get?_push_size t.heap rfl) m).here ?_
  cases b with
  | false => exact gnd_out tk G1 (no rfl)
  | true =>
    refine codeAny_handlers_suite_as (HandSPX.lands_againZ G1.fly fun g f u => ?_)
    obtain ⟨o2, y1, y2, _, I2⟩ := (G1.to f u).inS
    refine store_ok (X := X.suite a ((a, o2) :: (X.pn ++ pins))) (v := .ref a) I2 hN slot (.inl kind) rfl (fun v I3 => ?_) (.inr kind)
    have gone : ∀ {τ : L2.St} {G' : Hp} {v' : Shared} {R : Shared → Prop}, Inv (X.suite a ((a, o2) :: (X.pn ++ pins))) [] τ G' v' → (∀ v2, Inv X pins (τ.set i none) G' v2 → R v2) → wpAny (model X.prog X.w) X.A (do bindName X.env n .none; unbindBehindTheSuite X.env n q) (fun _ v2 => R v2) X.xe v' :=
      fun k r => gone_ok (k.unsuite G.was.ok) hN slot kind r
    refine wpAny_mono ((run a o2 cls d (X.pn ++ pins) y1 y2).run [] v _ H _ I3 (yes rfl a G.new)) (fun fl v' r => ?_) fun _ _ e => e.elim
    match fl, r with
    | .next, ⟨τ, G', k, r⟩ => exact gone k fun v2 k2 => ⟨_, G', k2, r⟩
    | .brk, ⟨τ, G', k, r⟩ => exact gone k fun v2 k2 => ⟨_, G', k2, r⟩
    | .cont, ⟨τ, G', k, r⟩ => exact gone k fun v2 k2 => ⟨_, G', k2, r⟩
    | .ret _, ⟨y, τ, G', k, rl, r⟩ => exact gone k fun v2 k2 => ⟨y, _, G', k2, rl, r⟩
theorem ps_try_tup {body : List Stmt} {pos : Pos} {tb : WX → TS} {Wout : WX} {n x1 x2 x3 : Str} {c1 c2 c3 : Value} {i kk : Nat} {ts : Addr → Value → Option Addr → TS} {b₀ : Stmt} {suite : List Stmt} {p1 p2 p3 pt q : Pos} (own : X.stack = X.env :: X.outer) (frm : X.env.frame = some X.env.locals) (hN : X.N.Nodup) (tk : Takes X Wout)
    (bd : ∀ (W : WX) (pn : List (Addr × Obj)) (xe : Value → Shared → Prop), Takes (X.tr pn xe) W → PSs (X.tr pn xe) body (tb W)) (slot : X.N[i]? = some n) (kind : X.env.kindOf n = some .local)
    (n1 : Names X x1 c1) (n2 : Names X x2 c2) (n3 : Names X x3 c3) (run : ∀ (a : Addr) (oe : Obj) (cls : Value) (d : Option Addr) (pn : List (Addr × Obj)), Zc cls d oe → (∃ vs, oe.data = .fields vs) → PSs (X.suite a ((a, oe) :: pn)) (b₀ :: suite) (ts a cls d)) :
    PS X (.Try body [.ExceptHandler (some (.Tuple [.Name x1 p1, .Name x2 p2, .Name x3 p3] kk pt)) (some n) (b₀ :: suite) q] [] [] pos) (fun D σ H => tb (wTup X.K Wout D [c1, c2, c3] i ts) D σ H) := by
  refine ⟨fun ps s σ0 H0 D I h => wpAny_Try_except (wpAny_mono ((bd _ (X.pn ++ ps) _ ?_).run [] s σ0 H0 D (I.toTry _) h) (fun fl v r => ?_) fun _ _ e => e)⟩
  · rintro u v ⟨a, B, t0, _, σ, H, cls, d, rfl, J, low, up, sky, new, io, gen, w⟩
    have fr : X.A.frames = some (X.env :: X.outer) := I.ok.frames.trans (congrArg some own)
    refine Sky.land (Z := Zc cls d) Zc.steady fr frm (B := B) (own ▸ sky) fun g f u => ?_
    exact gnd_tup hN slot kind n1 n2 n3 run tk (show Gnd X ps a cls d σ H B t0 { v with heap := g } from ⟨own, frm, J.ofTry I.ok, low, up.trans u, new, io, gen, f⟩) w
  · match fl, r with
    | .next, ⟨τ, G', k, r⟩ => exact wpAny_execs_nil ⟨τ, G', k.ofTry I.ok, r⟩
    | .brk, ⟨τ, G', k, r⟩ => exact ⟨τ, G', k.ofTry I.ok, r⟩
    | .cont, ⟨τ, G', k, r⟩ => exact ⟨τ, G', k.ofTry I.ok, r⟩
    | .ret _, ⟨y, τ, G', k, rl, r⟩ => exact ⟨y, τ, G', k.ofTry I.ok, rl, r⟩
end
end NC
/-! C(), an own refusal whose __init__ takes nothing but self -/
namespace NC
open PySem PySem.Spec PyProof.Rows L2
section
variable {X : Cx}
/-- the two objects that the making of a refusal lays: its arguments' tuple, itself -/
abbrev twoO (h : Heap) (C : Addr) : Heap := (h.push (PySem.W.kdv_tup [])).push (PySem.HandSPX.excO C h.objs.size)
theorem pmk_oex0 {x : Str} {C fI : Addr} {k : Nat} {fd : FuncData} {sp : Sp} {p pos : Pos} (O : OexC X.K C) (ini : PySem.W.findIn X.K (.ref C) "__init__" = some (some (.ref fI))) (fn : PySem.W.typeIn X.K (.ref fI) = some (.type "function"))
    (G : FnOk X.prog X.w X.K X.mg X.base C8.CX0 k fI fd ["self"] sp) (room : Room (k + 1) X.A) (b : Binds X.K fd ["self"] []) (gl : Gl X x) (mx : X.mg x = some (.ref C)) (db : (x == ("__debug__" : Str)) = false := by decide) :
    PMk X (.Call (.Name x p) [] [] pos) (tMkO C sp [] tNil) := fun pins s σ H Q I h => by
  obtain ⟨nm, q, N, bs, bm, sn, sub, ab, col, dd, k0, k1, k2, k3, k5, hC, hbm⟩ := O.cls
  obtain ⟨hp, gn, dr, tk, os⟩ := s
  have new : hp.objs.size ≤ hp.objs.size + 1 := by omega
  have want := h.2 (hp.objs.size + 1) (I.hok.fresh new)
  have old : ∀ b o, hp.get? b = some o → (twoO hp C).get? b = some o := fun b o z => Heap.get?_push_of_some _ (Heap.get?_push_of_some _ z)
  have there : (twoO hp C).get? (hp.objs.size + 1) = some (PySem.HandSPX.excO C hp.objs.size) := by heap_get
  have J : Inv X pins σ (upd H (hp.objs.size + 1) (exo (hp.objs.size + 1) C none)) ⟨twoO hp C, gn, dr, tk, os⟩ := I.laid (t' := tk) old new (exo_ok there)
  have bt := b ⟨twoO hp C, gn, dr, tk, os⟩ [.ref (hp.objs.size + 1)] J.kIn rfl
  have ran := G.run _ X.stack _ _ ⟨[.ref (hp.objs.size + 1)], []⟩ [.ref (hp.objs.size + 1)] [.ref (hp.objs.size + 1)] _ C8.E0 (room.make C [] []) (J.env0.make C [] []) bt (.cons rfl .nil) want
  refine wpAny_Call_Name_kw (ld_glob I gl mx (PySem.W.callWith_K0 (first := []) I.kIn O.kC (wpAny_call ?_)) db)
  refine PySem.HandSPX.call_own PySem.F.excBase_ValueError (fun Y => PySem.HandSPX.refsVE_contains Y bm hbm) (I.kIn _ _ hC) (PySem.W.looks_findIn I.kIn ini) (fun self => PySem.W.bind_fn I.kIn self fn) (Nat.zero_le _) (codeAny_mono ran fun r v z => ?_)
  match r, z with
  | .ok (.ret u), z =>
    obtain ⟨y, H2, o2, b2, u2, ok2, ry, rfl, d, fs, g1, g2, g3, g4⟩ := z
    obtain ⟨h2, n2, d2, t2, os2⟩ := v
    exact ⟨ry, mk_end (raises_own O.exC O.tyC) I new old u2 ok2 o2 b2 g1 g2 g3 g4⟩
/-- f(k = v, ..), no value by place -/
theorem pe_callN0 {CX : CXT} {k : Nat} {f : Addr} {fd : FuncData} {ps ks : List Str} {sp : Sp} {E : XK} {x : Str} {p pos : Pos} {kws : List Keyword} {tk : TA} {g : List Value → List Value → List Value} {gV : List V → List V → List V}
    (G : FnOk X.prog X.w X.K X.mg X.base CX k f fd ps sp) (room : Room k X.A) (gl : Gl X x) (mx : X.mg x = some (.ref f)) (kp : PySem.W.keepIn X.K (.ref f) = true) (b : KBn X.K fd ps 0 ks g gV) (px : Passes CX X E) (pk : PK X kws tk)
    (al : (backToKw pos (keywordEach kws X.env)).all (·.1.isSome) = true := by rfl) (nm : (backToKw pos (keywordEach kws X.env)).filterMap (·.1) = ks := by rfl) (db : (x == ("__debug__" : Str)) = false := by decide)
    (pl : ((backTo pos (starEach [] X.env)).any (·.1) || (backToKw pos (keywordEach kws X.env)).any (·.1.isNone)) = false := by rfl) : PE X (.Call (.Name x p) [] kws pos) (tCallN 0 ks.length sp gV E tNil tk) := ⟨fun pins s σ H Q I h => by
  refine wpAny_Call_Name_kw (ld_glob I gl mx (PySem.W.callWith_KW0 (h₀ := X.base) (first := []) I.mod.kin kp al (thn (pk.run pos pins s σ H _ I h) ?_) pl) db)
  rintro ws v ⟨zs, G2, J, rz, _, l2, q⟩
  rw [nm]
  exact ⟨J.kIn, run_fnN (us := []) (vs := []) G room b px J .nil rz rfl l2 q⟩⟩
end
end NC
namespace NC
open PySem PySem.Spec PyProof.Rows L2
def topS (i : Nat) : Stmt := PySem.Challenge.pw_nearcall_k03_chains_of_forcing.main.body.getD i (.Pass ⟨0, 0, 0, 0⟩)
abbrev sOther : Stmt := topS 9
abbrev sSides : Stmt := topS 10
abbrev sIsWalls : Stmt := topS 11
abbrev sIsBar : Stmt := topS 12
abbrev sChkWalls : Stmt := topS 13
abbrev sChkBars : Stmt := topS 14
abbrev sChkSide : Stmt := topS 15
/-- the built-ins are the built-ins -/
structure BM (mg : Str → Option Value) : Prop where
  list : mg "list" = none
  sorted : mg "sorted" = none
  set : mg "set" = none
  all : mg "all" = none
  len : mg "len" = none
  enumerate : mg "enumerate" = none
  range : mg "range" = none
  isinstance : mg "isinstance" = none
  tuple : mg "tuple" = none
/-- a def of the top, by its name -/
structure DF (K : PySem.W.Frag) (mg : Str → Option Value) (x : Str) (st : Stmt) (ps : List Str) (f : Addr) (fd : FuncData) : Prop where
  F : Fun K x x st f fd
  g : mg x = some (.ref f)
  b : Binds K fd ps []
theorem scOther : FnScope ["side"] ["side"] (defScope sOther) := ⟨rfl, rfl, rfl, by decide +kernel, rfl, by decide +kernel, by decide +kernel⟩
theorem scSides : FnScope ["walls"] ["walls"] (defScope sSides) := ⟨rfl, rfl, rfl, by decide +kernel, rfl, by decide +kernel, by decide +kernel⟩
theorem scIsBar : FnScope ["walls", "bar", "sides"] ["walls", "bar"] (defScope sIsBar) := ⟨rfl, rfl, rfl, by decide +kernel, rfl, by decide +kernel, by decide +kernel⟩
theorem scChkSide : FnScope ["walls", "side"] ["walls", "side"] (defScope sChkSide) := ⟨rfl, rfl, rfl, by decide +kernel, rfl, by decide +kernel, by decide +kernel⟩
section
variable {P : Program} {w : World} {K : PySem.W.Frag} {mg : Str → Option Value} {base : Heap}
/-! ### other -/
def spOther : Sp := fun vs H Q _ => ∃ c, vs = [.str (sg c)] ∧ c < 128 ∧ Q (.str (sg (swp c))) H
theorem ok_other {f : Addr} {fd : FuncData} {k : Nat} (F : Fun K "other" "other" sOther f fd) : FnOk P w K mg base CX0 (k + 1) f fd ["side"] spOther := by
  refine F.ok scOther (fun vs H Q E h => ?_) (fun cdv A outer s H vs Q E hr h => ?_)
  · obtain ⟨c, rfl, _⟩ := h
    rfl
  · obtain ⟨c, rfl, hc, q⟩ := h
    refine ⟨_, pss_one (ps_ret (pe_m0 PySem.F.slot_str_swapcase PySem.F.type_str_swapcase mt_swap (pv 0))), ?_⟩
    refine ⟨_, rfl, ⟨_, rfl⟩, _, rfl, rfl, by show 1 ≤ 1000; decide, ?_⟩
    rw [swap_sg c hc]
    exact q
/-! ### sides_of -/
def spSides : Sp := fun vs H Q _ => ∃ l, vs = [.str (tx l)] ∧ (∀ c ∈ l, c < 128) ∧ l.length ≤ 100 ∧ ∀ p, H p = none → Q (.ref p) (upd H p (.lst (((sds l).map sg).map V.str)))
theorem ok_sides {f : Addr} {fd : FuncData} {k : Nat} (B : BM mg) (F : Fun K "sides_of" "sides_of" sSides f fd) : FnOk P w K mg base CX0 (k + 1) f fd ["walls"] spSides := by
  refine F.ok scSides (fun vs H Q E h => ?_) (fun cdv A outer s H vs Q E hr h => ?_)
  · obtain ⟨c, rfl, _⟩ := h
    rfl
  · obtain ⟨l, rfl, hl, hz, q⟩ := h
    refine ⟨_, pss_one (ps_ret (pe_callTy (cr_listS rfl) (by rfl) B.list (by decide +kernel) (pa_cons (pe_op op_add_str (pe_upper (pv 0)) (pv 0)) pa_nil))), ?_⟩
    refine ⟨_, rfl, ⟨_, rfl⟩, _, rfl, rfl, by rw [tx_len]; omega, ?_⟩
    rw [upper_tx hl]
    refine ⟨_, rfl, _, _, rfl, rfl, by rw [tx_len, tx_len, List.length_map, sizeLine_eq]; omega, ?_⟩
    rw [tx_app]
    refine ⟨_, rfl, by rw [tx_len, List.length_append, List.length_map, sizeLine_eq]; omega, fun p hp => ?_⟩
    rw [sgs_tx]
    exact q p hp
/-! ### is_bar -/
def spIsBar : Sp := fun vs H Q _ => ∃ l b, vs = [.str (tx l), .str (tx b)] ∧ (∀ c ∈ l, c < 128) ∧ l.length ≤ 100 ∧ (∀ c ∈ b, c < 128) ∧ b.length ≤ 100 ∧ ∀ H', Same H H' → Q (.bl (isBar l b)) H'
theorem ok_isBar {f fS : Addr} {fd fdS : FuncData} {k : Nat} (B : BM mg) (F : Fun K "is_bar" "is_bar" sIsBar f fd) (S : DF K mg "sides_of" sSides ["walls"] fS fdS) : FnOk P w K mg base CX0 (k + 2) f fd ["walls", "bar"] spIsBar := by
  have GS : FnOk P w K mg base CX0 (k + 1) fS fdS ["walls"] spSides := ok_sides B S.F
  refine F.ok scIsBar (fun vs H Q E h => ?_) (fun cdv A outer s H vs Q E hr h => ?_)
  · obtain ⟨l, b, rfl, _⟩ := h
    rfl
  · obtain ⟨l, b, rfl, hl, hlz, hb, hbz, q⟩ := h
    have hbs : (tx b).length ≤ sizeLine := by rw [tx_len, sizeLine_eq]; omega
    refine ⟨_, pss_cons (ps_set (i := 2) scIsBar.nd rfl (.inl rfl) (pe_call GS hr rfl S.g S.F.kp S.b .nil pass0 (pa_cons (pv 0) pa_nil)))
      (pss_cons (ps_if (PW.pt (pw_or (pt_cmpR op_ne (pe_callB call_len_str (by rfl) B.len PySem.boot_len (pa_cons (pv 1) pa_nil)) pe_int (nomark _))
          (pw_or (pt_cmpR op_notIn_seq (pe_ix ix_str (pv 1) pe_int (fun _ _ => rfl)) (pv 2) (by rfl))
            (pw_or1 (pt_cmpR op_notIn_seq (pe_ix ix_str (pv 1) pe_int (fun _ _ => rfl)) (pv 2) (by rfl))))))
        (pss_one (ps_ret pe_bl)) pss_nil)
      (pss_one (ps_ret (pe_cmpR op_lt_str (pe_lower (pe_ix ix_str (pv 1) pe_int (fun _ _ => rfl))) (pe_lower (pe_ix ix_str (pv 1) pe_int (fun _ _ => rfl))) (nomark _))))), ?_⟩
    refine ⟨_, rfl, l, rfl, hl, hlz, fun p hp => ?_⟩
    have sm : Same H (upd H p (.lst (((sds l).map sg).map V.str))) := same_upd hp
    have hS : SqL K (upd H p (.lst (((sds l).map sg).map V.str))) p (((sds l).map sg).map V.str) := SqL.of upd_same
    have ix : ∀ c, inV (.str (sg c)) (((sds l).map sg).map V.str) = decide (c ∈ sds l) := fun c => by
      rw [inV_str]
      by_cases hm : c ∈ sds l
      · rw [decide_eq_true hm, decide_eq_true (mem_sg.mpr hm)]
      · rw [decide_eq_false hm, decide_eq_false fun z => hm (mem_sg.mp z)]
    refine ⟨_, rfl, _, rfl, hbs, rfl, _, rfl, ite2 (fun e => ?_) (fun e => ?_)⟩
    · have hn : b.length ≠ 2 := fun z => by
        rw [tx_len, z] at e
        exact absurd e (by decide)
      have e0 : isBar l b = false := by
        match b, hn with
        | [], _ => rfl
        | [_], _ => rfl
        | [_, _], hn => exact absurd rfl hn
        | _ :: _ :: _ :: _, _ => rfl
      refine iteT (show Q (.bl false) _ from ?_)
      rw [← e0]
      exact q _ sm
    · have hn : b.length = 2 := by
        have e1 : decide (V.int ↑(tx b).length = V.int 2) = true := by simpa using e
        have e2 : ((tx b).length : Int) = 2 := V.int.inj (of_decide_eq_true e1)
        rw [tx_len] at e2
        omega
      obtain ⟨x, y, rfl⟩ : ∃ x y, b = [x, y] := by
        match b, hn with
        | [x, y], _ => exact ⟨x, y, rfl⟩
      refine ⟨_, rfl, _, _, x, rfl, rfl, hbs, rfl, _, rfl, p, _, rfl, .inl hS, rfl, flat_str _, _, rfl, ite2 (fun e1 => ?_) (fun e1 => ?_)⟩
      · have e1 : (!inV (.str (sg x)) (((sds l).map sg).map V.str)) = true := e1
        rw [ix] at e1
        have e0 : isBar l [x, y] = false := by
          show (decide (x ∈ sds l) && _) = false
          simp only [Bool.not_eq_true'] at e1
          rw [e1]; rfl
        refine iteT (show Q (.bl false) _ from ?_)
        rw [← e0]
        exact q _ sm
      · have e1 : ¬ (!inV (.str (sg x)) (((sds l).map sg).map V.str)) = true := e1
        rw [ix] at e1
        have hx : decide (x ∈ sds l) = true := by simpa using e1
        refine ⟨_, rfl, _, _, y, rfl, rfl, hbs, rfl, _, rfl, p, _, rfl, .inl hS, rfl, flat_str _, _, rfl, ite2 (fun e2 => ?_) (fun e2 => ?_)⟩
        · have e2 : (!inV (.str (sg y)) (((sds l).map sg).map V.str)) = true := e2
          rw [ix] at e2
          have e0 : isBar l [x, y] = false := by
            show (decide (x ∈ sds l) && (decide (y ∈ sds l) && _)) = false
            simp only [Bool.not_eq_true'] at e2
            rw [e2]; simp
          show Q (.bl false) _
          rw [← e0]
          exact q _ sm
        · have e2 : ¬ (!inV (.str (sg y)) (((sds l).map sg).map V.str)) = true := e2
          rw [ix] at e2
          have hy : decide (y ∈ sds l) = true := by simpa using e2
          refine ⟨_, rfl, _, _, x, rfl, rfl, hbs, rfl, ⟨_, rfl⟩, _, rfl, rfl, by show 1 ≤ 5592405; decide, _, rfl, _, _, y, rfl, rfl, hbs, rfl, ⟨_, rfl⟩, _, rfl, rfl, by show 1 ≤ 5592405; decide, ?_⟩
          rw [show Txt.lower (⟨#[x]⟩ : Str) = tx [lwc x] from lower_tx (l := [x]) (fun c hc => hb c (by simp at hc; simp [hc])), show Txt.lower (⟨#[y]⟩ : Str) = tx [lwc y] from lower_tx (l := [y]) (fun c hc => hb c (by simp at hc; simp [hc]))]
          refine ⟨_, _, rfl, rfl, ?_⟩
          have e0 : decide ((tx [lwc x]).cps.toList < (tx [lwc y]).cps.toList) = isBar l [x, y] := by
            show _ = (decide (x ∈ sds l) && (decide (y ∈ sds l) && decide (lwc x < lwc y)))
            rw [hx, hy, tx_list, tx_list]
            simp [lt1]
          rw [e0]
          exact q _ sm
end
end NC
namespace NC
open PySem PySem.Spec PyProof.Rows L2
theorem scIsWalls : FnScope ["walls", "small", "letter"] ["walls"] (defScope sIsWalls) := ⟨rfl, rfl, rfl, by decide +kernel, rfl, by decide +kernel, by decide +kernel⟩
theorem scChkWalls : FnScope ["walls"] ["walls"] (defScope sChkWalls) := ⟨rfl, rfl, rfl, by decide +kernel, rfl, by decide +kernel, by decide +kernel⟩
theorem strA : (Str.ofString "a") = sg 97 := by decide +kernel
theorem strZ : (Str.ofString "z") = sg 122 := by decide +kernel
section
variable {P : Program} {w : World} {K : PySem.W.Frag} {mg : Str → Option Value} {base : Heap}
/-! ### is_walls, of good walls -/
def spIsWalls : Sp := fun vs H Q _ => ∃ l, vs = [.str (tx l)] ∧ GoodW l ∧ ∀ H', Same H H' → Q (.bl true) H'
theorem ok_isWalls {f : Addr} {fd : FuncData} {k : Nat} {tw : Tok} (B : BM mg) (mW : mg "WIDEST" = some (.int 12 tw)) (F : Fun K "is_walls" "is_walls" sIsWalls f fd) : FnOk P w K mg base CX0 (k + 1) f fd ["walls"] spIsWalls := by
  refine F.ok scIsWalls (fun vs H Q E h => ?_) (fun cdv A outer s H vs Q E hr h => ?_)
  · obtain ⟨l, rfl, _⟩ := h
    rfl
  · obtain ⟨l, rfl, g, q⟩ := h
    have hlz : (tx l).length ≤ sizeLine := by rw [tx_len, sizeLine_eq]; have := g.hi; omega
    refine ⟨_, pss_cons (ps_set (i := 1) scIsWalls.nd rfl (.inl rfl) (pe_callB (cr_all rfl) (by rfl) B.all (by decide +kernel) (pa_cons
        (pe_lc (own := [("letter", 2)]) (g := gName 2) (tt := tYes) rfl scIsWalls.nd (pi_str (pv 0)) (blkOk_by (N := ["walls", "small", "letter"]) (sc := defScope sIsWalls) (by decide +kernel))
          (fun _ _ _ _ _ => pg_name (i := 2) scIsWalls.nd rfl (Or.inl rfl)) (fun _ _ _ _ _ => pts_nil) (fun _ _ _ _ _ => pe_chain op_le_str op_le_str pe_str (pv 2) pe_str)) pa_nil)))
      (pss_one (ps_ret (pe_and (pv 1) (pe_and (pe_chain op_le op_le pe_int (pe_callB call_len_str (by rfl) B.len PySem.boot_len (pa_cons (pv 0) pa_nil)) (pe_glob (v := .int 12) rfl mW ⟨_, rfl⟩))
        (pe_one (pe_cmpR (op_eqD hr.units) (pe_callB (cr_sortedSetT rfl) (by rfl) B.sorted (by decide +kernel) (pa_cons (pe_callTy (cr_setT rfl) (by rfl) B.set (by decide +kernel) (pa_cons (pv 0) pa_nil)) pa_nil))
          (pe_callTy (cr_listS rfl) (by rfl) B.list (by decide +kernel) (pa_cons (pv 0) pa_nil)) (nomark _))))))), ?_⟩
    refine ⟨_, rfl, tx l, rfl, fun D hD => lc_it walk_str (fun i H' => ∃ n : Nat, n = i ∧ Same H H' ∧ H' D = some (.lst ((List.replicate i true).map V.bl))) ⟨0, rfl, same_upd hD, upd_same⟩ (fun _ _ _ _ => trivial) ?_ ?_⟩
    · rintro i x H1 H2 hi ⟨n, rfl, sm, eD⟩ ⟨rfl, c, hc, rfl⟩
      have hcl : c ∈ l := by
        have e : l[n]? = some c := by
          rw [← Array.getElem?_toList, tx_list] at hc
          exact hc
        exact List.mem_of_getElem? e
      have hs := g.sm c hcl
      have hn : n < l.length := by
        have : (tx l).cps.size = l.length := tx_len l
        omega
      refine ⟨rfl, yes_i ⟨_, rfl, _, _, rfl, rfl, true, ?_, iteT ⟨_, _, rfl, rfl, ?_⟩⟩⟩
      · rw [strA]
        show V.bl (!decide (([c] : List Nat) < [97])) = .bl true
        rw [decide_eq_false (by rw [lt1]; omega)]
        rfl
      · have e2 : (!decide ((Str.ofString "z").cps.toList < (⟨#[c]⟩ : Str).cps.toList)) = true := by
          rw [strZ]
          show (!decide (([122] : List Nat) < [c])) = true
          rw [decide_eq_false (by rw [lt1]; omega)]
          rfl
        rw [e2]
        refine ⟨_, eD, ?_, _, rfl, ?_, ?_⟩
        · rw [List.length_map, List.length_replicate, sizeLine_eq]
          have := g.hi
          omega
        · exact sm_over sm hD
        · rw [upd_same, List.replicate_succ', List.map_append]
          rfl
    · rintro H1 ⟨n, rfl, sm, eD⟩
      refine ⟨_, _, rfl, SqL.of eD, ?_⟩
      have ea : (List.replicate (tx l).cps.size true).all id = true := by simp
      rw [ea]
      refine ⟨_, rfl, true, rfl, iteT ⟨_, rfl, _, rfl, hlz, _, _, rfl, rfl, true, ?_, iteT ⟨_, _, rfl, rfl, true, ?_, iteT ?_⟩⟩⟩
      · show V.bl (decide ((1 : Int) ≤ ((tx l).length : Int))) = .bl true
        rw [tx_len, decide_eq_true (by have := g.lo; omega)]
      · show V.bl (decide (((tx l).length : Int) ≤ 12)) = .bl true
        rw [tx_len, decide_eq_true (by have := g.hi; omega)]
      · refine ⟨_, rfl, tx l, rfl, ?_, by rw [tx_list]; exact g.nd, by rw [tx_list]; have := g.hi; omega, fun p z hp hz => ?_⟩
        · rw [← Array.all_toList, tx_list, List.all_eq_true]
          intro c hc
          have := g.asc c hc
          simpa using this
        · rw [sgs_tx] at hz
          have hnd : (l.map sg).Nodup := List.pairwise_map.mpr (g.nd.imp fun {a b} h e => h (sg_inj e))
          refine ⟨p, z, rfl, upd_same, hz.nodup_iff.mpr hnd, by rw [hz.length_eq, List.length_map]; have := g.hi; omega, fun ys r hy hs hr2 => ?_⟩
          have ey : ys = l.map sg := sortedS_eq hs (hy.trans hz) g.pw
          subst ey
          refine ⟨_, rfl, _, rfl, hlz, fun a ha => ?_⟩
          rw [sgs_tx]
          have hra : r ≠ a := ne_of_none upd_same ha
          have oks : ∀ x ∈ l.map sg, okS x := fun x hx => by
            obtain ⟨c, hc, rfl⟩ := List.mem_map.mp hx
            exact okS_sg (g.asc c hc)
          refine ⟨_, _, .lst (SqL.of (by rw [upd_ne hra, upd_same])) (dpAll_strs _), .lst (SqL.of upd_same) (dpAll_strs _), shaped_strs oks, shaped_strs oks, ?_⟩
          show Q (.bl (PyData.eqvAll _ _)) _
          rw [eqvAll_strs, decide_eq_true rfl]
          exact q _ (sm_upd (sm_upd (sm_upd sm hp) hr2) ha)
end
end NC
namespace NC
open PySem PySem.Spec PyProof.Rows L2
abbrev sHEinit : Stmt := inClass (topS 1) 0
abbrev sBBinit : Stmt := inClass (topS 3) 0
theorem scHE : FnScope ["self", "word"] ["self", "word"] (defScope sHEinit) := ⟨rfl, rfl, rfl, by decide +kernel, rfl, by decide +kernel, by decide +kernel⟩
theorem scBB : FnScope ["self", "at"] ["self", "at"] (defScope sBBinit) := ⟨rfl, rfl, rfl, by decide +kernel, rfl, by decide +kernel, by decide +kernel⟩
/-- HallError, at C, and its __init__ -/
structure HE (K : PySem.W.Frag) (mg : Str → Option Value) (C f : Addr) (fd : FuncData) : Prop where
  gC : mg "HallError" = some (.ref C)
  rd : ∃ mc, ClX.CRead K C mc ∧ PySem.W.findCls K (.ref C) mc "__init__" = some (.val (.ref f))
  F : Fun K "__init__" "HallError.__init__" sHEinit f fd
  b : Binds K fd ["self", "word"] []
  mV : mg "ValueError" = none
  vV : PySem.W.findCls K (.type "ValueError") (.type "type") "__init__" = some (.val (.builtin "ValueError.__init__"))
section
variable {P : Program} {w : World} {K : PySem.W.Frag} {mg : Str → Option Value} {base : Heap}
theorem ok_chkWalls {f fW : Addr} {fd fdW : FuncData} {k : Nat} {tw : Tok} (B : BM mg) (mW : mg "WIDEST" = some (.int 12 tw)) (F : Fun K "check_walls" "check_walls" sChkWalls f fd) (W : DF K mg "is_walls" sIsWalls ["walls"] fW fdW) :
    FnOk P w K mg base CX0 (k + 2) f fd ["walls"] (fun vs H Q _ => ∃ l, vs = [.str (tx l)] ∧ GoodW l ∧ ∀ H', Same H H' → Q .non H') := by
  have GW : FnOk P w K mg base CX0 (k + 1) fW fdW ["walls"] spIsWalls := ok_isWalls B mW W.F
  refine F.ok scChkWalls (fun vs H Q E h => ?_) (fun cdv A outer s H vs Q E hr h => ?_)
  · obtain ⟨l, rfl, _⟩ := h
    rfl
  · obtain ⟨l, rfl, g, q⟩ := h
    refine ⟨_, pss_one (ps_if (pt_not (pt_val (pe_call GW hr rfl W.g W.F.kp W.b .nil pass0 (pa_cons (pv 0) pa_nil)))) (pss_one ps_never) pss_nil), ?_⟩
    exact ⟨_, rfl, l, rfl, g, fun H1 sm => ⟨true, rfl, iteF (q H1 sm)⟩⟩
/-! ### the refusals' own __init__ -/
def spHE (K : PySem.W.Frag) : Sp := fun vs H Q _ => ∃ a C v, vs = [.ref a, v] ∧ OexC K C ∧ PySem.W.findIn K (.ref C) "word" = some none ∧ H a = some (exo a C none) ∧
  ∀ dx, H dx = none → dx ≠ a → Q .non (upd (upd H dx (exd dx [("word", v)])) a (exo a C (some dx)))
theorem ok_HE {C f : Addr} {fd : FuncData} {k : Nat} (T : HE K mg C f fd) : FnOk P w K mg base CX0 (k + 1) f fd ["self", "word"] (spHE K) := by
  refine T.F.ok scHE (fun vs H Q E h => ?_) (fun cdv A outer s H vs Q E hr h => ?_)
  · obtain ⟨a, C, v, rfl, _⟩ := h
    rfl
  · obtain ⟨a, C, v, rfl, hO, hw, ha, q⟩ := h
    refine ⟨_, pss_cons (ps_expr (pe_veinit (by rfl) T.mV T.vV (pa_cons (pv 0) (pa_cons (pv 1) pa_nil)))) (pss_one (ps_ost (pv 0) (pv 1))), ?_⟩
    refine ⟨_, rfl, _, rfl, a, C, [v], rfl, by show 1 ≤ 1000; decide, hO, ha, ?_⟩
    exact ⟨_, rfl, _, rfl, a, C, rfl, hO, hw, .inl ⟨ha, fun dx n ne => q dx n ne⟩⟩
/-- a refusal of one field beside its word -/
def sp1 (K : PySem.W.Frag) (fld : Str) (word : Str) : Sp := fun vs H Q _ => ∃ a C v, vs = [.ref a, v] ∧ OexC K C ∧ PySem.W.findIn K (.ref C) "word" = some none ∧ PySem.W.findIn K (.ref C) fld = some none ∧ H a = some (exo a C none) ∧
  ∀ dx H', H dx = none → dx ≠ a → (∀ b, b ≠ dx → b ≠ a → H' b = H b) → H' a = some (exo a C (some dx)) → H' dx = some (exd dx [(fld, v), ("word", .str word)]) → Q .non H'
theorem ok_BB {CH fH f : Addr} {fd fdH : FuncData} {k : Nat} (T : HE K mg CH fH fdH) (F : Fun K "__init__" "BadBar.__init__" sBBinit f fd) : FnOk P w K mg base CX0 (k + 2) f fd ["self", "at"] (sp1 K "at" "badbar") := by
  have GH : FnOk P w K mg base CX0 (k + 1) fH fdH ["self", "word"] (spHE K) := ok_HE T
  obtain ⟨mc, rd, fc⟩ := T.rd
  refine F.ok scBB (fun vs H Q E h => ?_) (fun cdv A outer s H vs Q E hr h => ?_)
  · obtain ⟨a, C, v, rfl, _⟩ := h
    rfl
  · obtain ⟨a, C, v, rfl, hO, hw, hf, ha, q⟩ := h
    refine ⟨_, pss_cons (ps_expr (pe_clsfn (by rfl) T.gC rd fc GH hr T.F.kp T.b .nil pass0 (pa_cons (pv 0) (pa_cons pe_str pa_nil)))) (pss_one (ps_ost (pv 0) (pv 1))), ?_⟩
    refine ⟨_, rfl, a, C, _, rfl, hO, hw, ha, fun dx n ne => ?_⟩
    refine ⟨_, rfl, _, rfl, a, C, rfl, hO, hf, .inr ⟨dx, _, upd_same, by rw [upd_ne ne, upd_same], by show 1 ≤ 900; decide, q dx _ n ne (fun b h1 h2 => ?_) ?_ ?_⟩⟩
    · rw [upd_ne h1, upd_ne h2, upd_ne h1]
    · rw [upd_ne (Ne.symm ne), upd_same]
    · rw [upd_same]
end
end NC
namespace NC
open PySem PySem.Spec PyProof.Rows L2
def badAt (l : List Nat) (bs : List (List Nat)) (i : Nat) : Bool := !isBar l (bs.getD i []) || decide (bs.getD i [] ∈ bs.take i)
def firstBad (l : List Nat) (bs : List (List Nat)) : Option Nat := (List.range bs.length).find? (badAt l bs)
theorem first_at {l : List Nat} {bs : List (List Nat)} {i : Nat} {b : List Nat} (h : bs[i]? = some b) (ok : ∀ j, j < i → badAt l bs j = false) (hb : badAt l bs i = true) : firstBad l bs = some i := by
  have hi : i < bs.length := (List.getElem?_eq_some_iff.mp h).1
  unfold firstBad
  refine List.find?_eq_some_iff_getElem.mpr ⟨hb, i, by simpa using hi, by simp, fun j hj => ?_⟩
  rw [List.getElem_range, ok j hj]
  rfl
theorem walk_enumT {K : PySem.W.Frag} {a : Addr} {xs : List V} : Walk (ItET K a) xs.length (fun H => SqT K H a xs) (YPair (fun i => some (.int (i : Nat))) (fun i => xs[i]?)) where
  goes := fun i _ lt sq => ⟨xs, xs[i], sq, List.getElem?_eq_getElem lt⟩
  stops := fun _ sq => ⟨xs, sq, Nat.le_refl _⟩
  yields := fun i _ _ _ _ sq ⟨T, x, e1, e2, e3, e4⟩ => ⟨T, .int (i : Nat), x, e1, e2, e3, rfl, e4 xs sq⟩
theorem cut_to (bs : List (List Nat)) (i : Nat) (h : i ≤ bs.length) : cutV ((bs.map tx).map V.str) none (some ((i : Nat) : Int)) = ((bs.take i).map tx).map V.str := by
  unfold cutV
  rw [HT.sIx_none, HT.sIx_nat, List.drop_zero, Nat.sub_zero, List.length_map, List.length_map, Nat.min_eq_left h, List.map_take, List.map_take]
/-- an own refusal's class, at C, its __init__ at fI -/
structure XC (K : PySem.W.Frag) (mg : Str → Option Value) (x q : Str) (st : Stmt) (fld : Str) (C fI : Addr) (fd : FuncData) : Prop where
  gC : mg x = some (.ref C)
  O : OexC K C
  hw : PySem.W.findIn K (.ref C) "word" = some none
  hf : PySem.W.findIn K (.ref C) fld = some none
  iC : PySem.W.findIn K (.ref C) "__init__" = some (some (.ref fI))
  tI : PySem.W.typeIn K (.ref fI) = some (.type "function")
  F : Fun K "__init__" q st fI fd
  b : Binds K fd ["self", fld] []
theorem mk1 {K : PySem.W.Frag} {C : Addr} {fld word : Str} (hO : OexC K C) (hw : PySem.W.findIn K (.ref C) "word" = some none) (hf : PySem.W.findIn K (.ref C) fld = some none) {H1 : Hp} {v : V} {Q : XK}
    (q : ∀ d H', Same H1 H' → H1 d = none → H' d = some (.xd [(fld, v), ("word", .str word)]) → Q (.ref C) (some d) H') :
    ∀ a, H1 a = none → sp1 K fld word (.ref a :: ([v] ++ [])) (upd H1 a (exo a C none))
      (fun u H2 => u = .non ∧ ∃ (d : Addr) (fs : List (Str × V)), H2 a = some (exo a C (some d)) ∧ H2 d = some (exd d fs) ∧ H1 d = none ∧ Q (.ref C) (some d) (upd (del H2 a) d (.xd fs))) (fun _ _ _ => False) := by
  intro a na
  refine ⟨a, C, v, rfl, hO, hw, hf, upd_same, fun dx H' n1 n2 k e1 e2 => ⟨rfl, dx, _, e1, e2, ?_, q dx _ (fun b o hb => ?_) ?_ upd_same⟩⟩
  · rw [upd_ne n2] at n1
    exact n1
  · have hd : H1 dx = none := by
      rw [upd_ne n2] at n1
      exact n1
    have b1 : b ≠ dx := ne_of_none hb hd
    have b2 : b ≠ a := ne_of_none hb na
    rw [upd_ne b1, del_ne b2, k b b1 b2, upd_ne b2]
    exact hb
  · rw [upd_ne n2] at n1
    exact n1
theorem scChkBars : FnScope ["walls", "bars", "at", "bar"] ["walls", "bars"] (defScope sChkBars) := ⟨rfl, rfl, rfl, by decide +kernel, rfl, by decide +kernel, by decide +kernel⟩
section
variable {P : Program} {w : World} {K : PySem.W.Frag} {mg : Str → Option Value} {base : Heap}
def BarsOk (bs : List (List Nat)) : Prop := ∀ b ∈ bs, (∀ c ∈ b, c < 128) ∧ b.length ≤ 100
def spChkBars (K : PySem.W.Frag) (CB : Addr) : Sp := fun vs H Q E => ∃ l a bs, vs = [.str (tx l), .ref a] ∧ GoodW l ∧ BarsOk bs ∧ bs.length ≤ 100 ∧ (SqL K H a ((bs.map tx).map V.str) ∨ SqT K H a ((bs.map tx).map V.str)) ∧
  match firstBad l bs with
  | none => ∀ H', Same H H' → Q .non H'
  | some i => ∀ H' d, Same H H' → H d = none → H' d = some (.xd [("at", .int (i : Nat)), ("word", .str "badbar")]) → E (.ref CB) (some d) H'
set_option maxHeartbeats 1000000 in
theorem ok_chkBars {f fI CB fB CH fH fS : Addr} {fd fdI fdB fdH fdS : FuncData} {k : Nat} (B : BM mg) (F : Fun K "check_bars" "check_bars" sChkBars f fd) (I : DF K mg "is_bar" sIsBar ["walls", "bar"] fI fdI) (S : DF K mg "sides_of" sSides ["walls"] fS fdS)
    (T : HE K mg CH fH fdH) (X : XC K mg "BadBar" "BadBar.__init__" sBBinit "at" CB fB fdB) : FnOk P w K mg base (L2.CX P w) (k + 4) f fd ["walls", "bars"] (spChkBars K CB) := by
  have GI : FnOk P w K mg base CX0 (k + 2) fI fdI ["walls", "bar"] spIsBar := ok_isBar B I.F S
  have GB : FnOk P w K mg base CX0 (k + 2) fB fdB ["self", "at"] (sp1 K "at" "badbar") := ok_BB T X.F
  refine F.okX scChkBars (fun vs H Q E h => ?_) (fun cdv A outer s H vs Q E hr h => ?_)
  · obtain ⟨l, a, bs, rfl, _⟩ := h
    rfl
  · obtain ⟨l, a, bs, rfl, g, hbs, hbl, hS, q⟩ := h
    refine ⟨_, pss_one (ps_for (passes_of rfl) rfl (pi_enumT (by rfl) B.enumerate (pa_cons (pv 1) pa_nil))
        (pg_tup rfl (pgs_cons (pg_name (i := 2) scChkBars.nd rfl (.inl rfl)) (pgs_cons (pg_name (i := 3) scChkBars.nd rfl (.inl rfl)) pgs_nil)))
      (pss_one (ps_if (PW.pt (pw_or (pt_not (pt_val (pe_call GI (hr.mono (by omega)) rfl I.g I.F.kp I.b .nil pass0 (pa_cons (pv 0) (pa_cons (pv 3) pa_nil)))))
          (pw_or1 (pt_cmpR op_in_seq (pv 3) (pe_slice (SlR.or sl_list sl_tup) (pv 1) po_none (po_some (pv 2))) (by rfl)))))
        (pss_one (ps_raise rfl (takes_of rfl rfl rfl rfl) (pmk_oex X.O X.iC X.tI GB hr X.b .nil pass0 (by rfl) X.gC (pa_cons (pv 2) pa_nil)))) pss_nil))), ?_⟩
    refine ⟨_, rfl, a, rfl, ?_⟩
    have len : ((bs.map tx).map V.str).length = bs.length := by rw [List.length_map, List.length_map]
    rcases hS with hS | hS
    · have wk := walk_enum (K := K) (a := a) (xs := (bs.map tx).map V.str)
      rw [len] at wk
      refine .inl ⟨⟨_, hS⟩, for_it wk (fun i σ H' => ∃ y2 y3, σ = [some (.str (tx l)), some (.ref a), y2, y3] ∧ (∀ j, j < i → badAt l bs j = false) ∧ Same H H')
        ⟨_, _, rfl, fun _ h => absurd h (Nat.not_lt_zero _), L2.Same.refl _⟩ (fun i σ H' _ p => by obtain ⟨_, _, _, _, sm⟩ := p; exact sm_l sm hS) ?_ ?_⟩
      · rintro i x σ H1 H2 hi ⟨y2, y3, rfl, hok, sm⟩ ⟨T, x1, x2, rfl, nT, rfl, e1, e2⟩
        obtain rfl : V.int (i : Nat) = x1 := Option.some.inj e1
        have e2 : ((bs.map tx).map V.str)[i]? = some x2 := e2
        rw [List.getElem?_map, List.getElem?_map] at e2
        obtain ⟨z, hz, e3⟩ := Option.map_eq_some_iff.mp e2
        obtain ⟨b, hbi, rfl⟩ := Option.map_eq_some_iff.mp hz
        subst e3
        have hb : b ∈ bs := List.mem_of_getElem? hbi
        have sT : Same H (upd H1 T (.tup [.int (i : Nat), .str (tx b)])) := sm_upd sm nT
        refine ⟨T, _, rfl, SqT.of upd_same, rfl, _, _, rfl, _, _, rfl, rfl, ?_⟩
        refine ⟨_, rfl, _, rfl, l, b, rfl, g.asc, by have := g.hi; omega, (hbs b hb).1, (hbs b hb).2, fun H3 s3 => ⟨_, rfl, ite2 (fun t1 => ?_) (fun t1 => ?_)⟩⟩
        · -- no bar
          have hn : isBar l b = false := by simpa using t1
          have fb : firstBad l bs = some i := first_at hbi hok (by unfold badAt; rw [List.getD_eq_getElem?_getD, hbi]; simp [hn])
          rw [fb] at q
          refine iteT ⟨_, rfl, by show 1 ≤ 1000; decide, mk1 X.O X.hw X.hf fun d H4 s4 n4 e4 => ?_⟩
          exact q H4 d (sm_trans (sm_trans sT s3) s4) (L2.Same.free (sm_trans sT s3) n4) e4
        · have hy : isBar l b = true := by simpa using t1
          have hS3 := sm_l (sm_trans sT s3) hS
          refine ⟨_, rfl, _, rfl, _, rfl, _, rfl, .inl ⟨a, _, rfl, hS3, fun p np => ?_⟩⟩
          rw [cut_to bs i (Nat.le_of_lt hi)]
          refine ⟨p, _, rfl, .inl (SqL.of upd_same), rfl, flat_str _, _, rfl, ite2 (fun t2 => ?_) (fun t2 => ?_)⟩
          · have hm : b ∈ bs.take i := by
              have t3 : inV (.str (tx b)) (((bs.take i).map tx).map V.str) = true := t2
              rw [inV_str] at t3
              obtain ⟨c, hc, e⟩ := List.mem_map.mp (of_decide_eq_true t3)
              rw [← tx_inj e]
              exact hc
            have fb : firstBad l bs = some i := first_at hbi hok (by unfold badAt; rw [List.getD_eq_getElem?_getD, hbi]; simp [hm])
            rw [fb] at q
            refine ⟨_, rfl, by show 1 ≤ 1000; decide, mk1 X.O X.hw X.hf fun d H4 s4 n4 e4 => ?_⟩
            have s5 := sm_upd (o := .lst (((bs.take i).map tx).map V.str)) (sm_trans sT s3) np
            exact q H4 d (sm_trans s5 s4) (L2.Same.free s5 n4) e4
          · refine ⟨_, _, rfl, fun j hj => ?_, sm_upd (sm_trans sT s3) np⟩
            rcases Nat.lt_or_ge j i with h | h
            · exact hok j h
            · obtain rfl : j = i := by omega
              have hm : b ∉ bs.take j := fun z => by
                have t3 : ¬ inV (.str (tx b)) (((bs.take j).map tx).map V.str) = true := t2
                rw [inV_str] at t3
                exact t3 (decide_eq_true (List.mem_map.mpr ⟨b, z, rfl⟩))
              unfold badAt
              rw [List.getD_eq_getElem?_getD, hbi]
              simp [hy, hm]
      · rintro σ H1 ⟨y2, y3, rfl, hok, sm⟩
        have fb : firstBad l bs = none := List.find?_eq_none.mpr fun j hj => by
          rw [hok j (by simpa using hj)]
          decide
        rw [fb] at q
        exact q H1 sm
    · have wk := walk_enumT (K := K) (a := a) (xs := (bs.map tx).map V.str)
      rw [len] at wk
      refine .inr ⟨⟨_, hS⟩, for_it wk (fun i σ H' => ∃ y2 y3, σ = [some (.str (tx l)), some (.ref a), y2, y3] ∧ (∀ j, j < i → badAt l bs j = false) ∧ Same H H')
        ⟨_, _, rfl, fun _ h => absurd h (Nat.not_lt_zero _), L2.Same.refl _⟩ (fun i σ H' _ p => by obtain ⟨_, _, _, _, sm⟩ := p; exact sm_t sm hS) ?_ ?_⟩
      · rintro i x σ H1 H2 hi ⟨y2, y3, rfl, hok, sm⟩ ⟨T, x1, x2, rfl, nT, rfl, e1, e2⟩
        obtain rfl : V.int (i : Nat) = x1 := Option.some.inj e1
        have e2 : ((bs.map tx).map V.str)[i]? = some x2 := e2
        rw [List.getElem?_map, List.getElem?_map] at e2
        obtain ⟨z, hz, e3⟩ := Option.map_eq_some_iff.mp e2
        obtain ⟨b, hbi, rfl⟩ := Option.map_eq_some_iff.mp hz
        subst e3
        have hb : b ∈ bs := List.mem_of_getElem? hbi
        have sT : Same H (upd H1 T (.tup [.int (i : Nat), .str (tx b)])) := sm_upd sm nT
        refine ⟨T, _, rfl, SqT.of upd_same, rfl, _, _, rfl, _, _, rfl, rfl, ?_⟩
        refine ⟨_, rfl, _, rfl, l, b, rfl, g.asc, by have := g.hi; omega, (hbs b hb).1, (hbs b hb).2, fun H3 s3 => ⟨_, rfl, ite2 (fun t1 => ?_) (fun t1 => ?_)⟩⟩
        · -- no bar
          have hn : isBar l b = false := by simpa using t1
          have fb : firstBad l bs = some i := first_at hbi hok (by unfold badAt; rw [List.getD_eq_getElem?_getD, hbi]; simp [hn])
          rw [fb] at q
          refine iteT ⟨_, rfl, by show 1 ≤ 1000; decide, mk1 X.O X.hw X.hf fun d H4 s4 n4 e4 => ?_⟩
          exact q H4 d (sm_trans (sm_trans sT s3) s4) (L2.Same.free (sm_trans sT s3) n4) e4
        · have hy : isBar l b = true := by simpa using t1
          have hS3 := sm_t (sm_trans sT s3) hS
          refine ⟨_, rfl, _, rfl, _, rfl, _, rfl, .inr ⟨a, _, rfl, hS3, fun z => absurd z.2 (by rw [len, HT.sIx_nat]; omega), fun p np => ?_⟩⟩
          rw [cut_to bs i (Nat.le_of_lt hi)]
          refine ⟨p, _, rfl, .inr (SqT.of upd_same), rfl, flat_str _, _, rfl, ite2 (fun t2 => ?_) (fun t2 => ?_)⟩
          · have hm : b ∈ bs.take i := by
              have t3 : inV (.str (tx b)) (((bs.take i).map tx).map V.str) = true := t2
              rw [inV_str] at t3
              obtain ⟨c, hc, e⟩ := List.mem_map.mp (of_decide_eq_true t3)
              rw [← tx_inj e]
              exact hc
            have fb : firstBad l bs = some i := first_at hbi hok (by unfold badAt; rw [List.getD_eq_getElem?_getD, hbi]; simp [hm])
            rw [fb] at q
            refine ⟨_, rfl, by show 1 ≤ 1000; decide, mk1 X.O X.hw X.hf fun d H4 s4 n4 e4 => ?_⟩
            have s5 := sm_upd (o := .tup (((bs.take i).map tx).map V.str)) (sm_trans sT s3) np
            exact q H4 d (sm_trans s5 s4) (L2.Same.free s5 n4) e4
          · refine ⟨_, _, rfl, fun j hj => ?_, sm_upd (sm_trans sT s3) np⟩
            rcases Nat.lt_or_ge j i with h | h
            · exact hok j h
            · obtain rfl : j = i := by omega
              have hm : b ∉ bs.take j := fun z => by
                have t3 : ¬ inV (.str (tx b)) (((bs.take j).map tx).map V.str) = true := t2
                rw [inV_str] at t3
                exact t3 (decide_eq_true (List.mem_map.mpr ⟨b, z, rfl⟩))
              unfold badAt
              rw [List.getD_eq_getElem?_getD, hbi]
              simp [hy, hm]
      · rintro σ H1 ⟨y2, y3, rfl, hok, sm⟩
        have fb : firstBad l bs = none := List.find?_eq_none.mpr fun j hj => by
          rw [hok j (by simpa using hj)]
          decide
        rw [fb] at q
        exact q H1 sm
end
end NC
namespace NC
open PySem PySem.Spec PyProof.Rows L2
abbrev sStraight : Stmt := topS 16
theorem scStraight : FnScope ["walls", "bars", "straight", "bar", "side"] ["walls", "bars"] (defScope sStraight) := ⟨rfl, rfl, rfl, by decide +kernel, rfl, by decide +kernel, by decide +kernel⟩
def con (s : Nat) (b : List Nat) : List Nat := match b with
  | [x, y] => (if x = s then [swp y] else []) ++ (if y = s then [swp x] else [])
  | _ => []
def adjOf (bs : List (List Nat)) (s : Nat) : List Nat := bs.flatMap (con s)
theorem con_len (s : Nat) (b : List Nat) : (con s b).length ≤ 2 := by
  unfold con
  split
  · rw [List.length_append]
    split <;> split <;> simp
  · simp
theorem adj_len (bs : List (List Nat)) (s : Nat) : (adjOf bs s).length ≤ 2 * bs.length := by
  induction bs with
  | nil => simp [adjOf]
  | cons b r ih =>
    have e : adjOf (b :: r) s = con s b ++ adjOf r s := by simp [adjOf]
    rw [e, List.length_append, List.length_cons]
    have := con_len s b
    omega
theorem bar_two {l b : List Nat} (h : isBar l b = true) : ∃ x y, b = [x, y] ∧ x ∈ sds l ∧ y ∈ sds l ∧ lwc x < lwc y := by
  match b, h with
  | [x, y], h =>
    have h' : (decide (x ∈ sds l) && (decide (y ∈ sds l) && decide (lwc x < lwc y))) = true := h
    rw [Bool.and_eq_true, Bool.and_eq_true] at h'
    exact ⟨x, y, rfl, of_decide_eq_true h'.1, of_decide_eq_true h'.2.1, of_decide_eq_true h'.2.2⟩
theorem adj_mem {l : List Nat} (g : GoodW l) {bs : List (List Nat)} (hb : ∀ b ∈ bs, isBar l b = true) {s c : Nat} (h : c ∈ adjOf bs s) : c ∈ sds l := by
  obtain ⟨b, hb1, hc⟩ := List.mem_flatMap.mp h
  obtain ⟨x, y, rfl, hx, hy, _⟩ := bar_two (hb b hb1)
  have hc : c ∈ (if x = s then [swp y] else []) ++ (if y = s then [swp x] else []) := hc
  rcases List.mem_append.mp hc with q | q
  · split at q
    · rw [List.mem_singleton.mp q]; exact sds_swp g hy
    · cases q
  · split at q
    · rw [List.mem_singleton.mp q]; exact sds_swp g hx
    · cases q
theorem adj_snoc (bs : List (List Nat)) (i s : Nat) (b : List Nat) (h : bs[i]? = some b) : adjOf (bs.take (i + 1)) s = adjOf (bs.take i) s ++ con s b := by
  rw [List.take_add_one, h]
  unfold adjOf
  rw [List.flatMap_append]
  simp
def stK (L : List Nat) (ad : Nat → Addr) : List (Key × V) := L.map fun s => (Sum.inr (sg s), V.ref (ad s))
theorem stK_val {L : List Nat} {ad : Nat → Addr} {s : Nat} (h : s ∈ L) : valV (stK L ad) (Sum.inr (sg s)) = some (.ref (ad s)) := by
  induction L with
  | nil => cases h
  | cons t r ih =>
    by_cases e : t = s
    · subst e
      exact valV_pos (p := (Sum.inr (sg t), V.ref (ad t))) rfl
    · have h2 : s ∈ r := by
        rcases List.mem_cons.mp h with z | z
        · exact absurd z.symm e
        · exact z
      exact (valV_neg (p := (Sum.inr (sg t), V.ref (ad t))) (fun z => e (sg_inj (Sum.inr.inj z)))).trans (ih h2)
theorem stK_no {L : List Nat} {ad : Nat → Addr} {s : Nat} (h : s ∉ L) : valV (stK L ad) (Sum.inr (sg s)) = none := by
  induction L with
  | nil => rfl
  | cons t r ih =>
    have e : ¬ t = s := fun z => h (by rw [z]; exact List.mem_cons_self ..)
    exact (valV_neg (p := (Sum.inr (sg t), V.ref (ad t))) (fun z => e (sg_inj (Sum.inr.inj z)))).trans (ih fun z => h (List.mem_cons_of_mem _ z))
theorem stK_congr {L : List Nat} {ad ad' : Nat → Addr} (h : ∀ s ∈ L, ad s = ad' s) : stK L ad = stK L ad' := List.map_congr_left fun s hs => by rw [h s hs]
/-- the dict of lists of what is forced straight -/
structure SD8 (H : Hp) (L : List Nat) (d : Addr) (ad : Nat → Addr) (adj : Nat → List Nat) : Prop where
  dk : H d = some (.dK (stK L ad))
  at_ : ∀ s ∈ L, H (ad s) = some (.lst (((adj s).map sg).map V.str))
  inj : ∀ s ∈ L, ∀ t ∈ L, ad s = ad t → s = t
theorem SD8.nd {H : Hp} {L : List Nat} {d : Addr} {ad : Nat → Addr} {adj : Nat → List Nat} (S : SD8 H L d ad adj) {s : Nat} (h : s ∈ L) : ad s ≠ d := ne_of (S.at_ s h) S.dk fun z => by cases z
theorem SD8.get {H : Hp} {L : List Nat} {d : Addr} {ad : Nat → Addr} {adj : Nat → List Nat} (S : SD8 H L d ad adj) {s : Nat} (h : s ∈ L) : DGet H d (.str (sg s)) (some (.ref (ad s))) := by
  rw [← stK_val (ad := ad) h]
  exact DGet.k (k := Sum.inr (sg s)) S.dk
theorem SD8.app {H : Hp} {L : List Nat} {d : Addr} {ad : Nat → Addr} {adj : Nat → List Nat} (S : SD8 H L d ad adj) {s c : Nat} (h : s ∈ L) :
    SD8 (upd H (ad s) (.lst (((adj s).map sg).map V.str ++ [.str (sg c)]))) L d ad (fun t => if t = s then adj t ++ [c] else adj t) := by
  refine ⟨by rw [upd_ne (Ne.symm (S.nd h))]; exact S.dk, fun t ht => ?_, S.inj⟩
  by_cases e : t = s
  · subst e
    rw [upd_same, if_pos rfl, List.map_append, List.map_append]
    rfl
  · rw [upd_ne (fun z => e (S.inj t ht s h z)), if_neg e]
    exact S.at_ t ht
section
variable {P : Program} {w : World} {K : PySem.W.Frag} {mg : Str → Option Value} {base : Heap}
def spStraight (K : PySem.W.Frag) : Sp := fun vs H Q _ => ∃ l a bs, vs = [.str (tx l), .ref a] ∧ GoodW l ∧ (∀ b ∈ bs, isBar l b = true) ∧ bs.length ≤ 100 ∧ (SqL K H a ((bs.map tx).map V.str) ∨ SqT K H a ((bs.map tx).map V.str)) ∧
  ∀ H' d ad, Same H H' → H d = none → SD8 H' (sds l) d ad (adjOf bs) → Q (.ref d) H'
set_option maxHeartbeats 1000000 in
theorem ok_straight {f fS fO : Addr} {fd fdS fdO : FuncData} {k : Nat} (B : BM mg) (F : Fun K "straight_from" "straight_from" sStraight f fd) (S : DF K mg "sides_of" sSides ["walls"] fS fdS) (O : DF K mg "other" sOther ["side"] fO fdO) :
    FnOk P w K mg base CX0 (k + 2) f fd ["walls", "bars"] (spStraight K) := by
  have GS : FnOk P w K mg base CX0 (k + 1) fS fdS ["walls"] spSides := ok_sides B S.F
  have GO : FnOk P w K mg base CX0 (k + 1) fO fdO ["side"] spOther := ok_other O.F
  refine F.ok scStraight (fun vs H Q E h => ?_) (fun cdv A outer s H vs Q E hr h => ?_)
  · obtain ⟨l, a, bs, rfl, _⟩ := h
    rfl
  · obtain ⟨l, a, bs, rfl, g, hbar, hbl, hS, q⟩ := h
    refine ⟨_, pss_cons (ps_setDc (i := 2) (own := [("side", 4)]) (g := gName 4) (tt := tYes) rfl scStraight.nd rfl rfl (sw_dict rfl rfl rfl (by decide +kernel)) (pi_list (pe_call GS hr rfl S.g S.F.kp S.b .nil pass0 (pa_cons (pv 0) pa_nil)))
        (blkOk_by (N := ["walls", "bars", "straight", "bar", "side"]) (sc := defScope sStraight) (by decide +kernel)) (fun _ _ _ _ _ => pg_name (i := 4) scStraight.nd rfl (Or.inl rfl)) (fun _ _ _ _ _ => pts_nil) (fun _ _ _ _ _ => pv 4) (fun _ _ _ _ _ => pe_lst pa_nil))
      (pss_cons (ps_for PassesOwn.never rfl (pi_seq (pv 1)) (pg_name (i := 3) scStraight.nd rfl (Or.inl rfl))
        (pss_cons (ps_expr (pe_bm PySem.F.plainAttrs_list PySem.F.slot_list_append PySem.F.type_list_append mt_append (pe_dget (hu_of hr) (pv 2) (pe_ix ix_str (pv 3) pe_int (fun _ _ => rfl)) (fun _ _ => rfl))
            (pa_cons (pe_call GO hr rfl O.g O.F.kp O.b .nil pass0 (pa_cons (pe_ix ix_str (pv 3) pe_int (fun _ _ => rfl)) pa_nil)) pa_nil)))
          (pss_one (ps_expr (pe_bm PySem.F.plainAttrs_list PySem.F.slot_list_append PySem.F.type_list_append mt_append (pe_dget (hu_of hr) (pv 2) (pe_ix ix_str (pv 3) pe_int (fun _ _ => rfl)) (fun _ _ => rfl))
            (pa_cons (pe_call GO hr rfl O.g O.F.kp O.b .nil pass0 (pa_cons (pe_ix ix_str (pv 3) pe_int (fun _ _ => rfl)) pa_nil)) pa_nil))))))
      (pss_one (ps_ret (pv 2)))), ?_⟩
    refine ⟨_, rfl, l, rfl, g.asc, by have := g.hi; omega, fun p np => ⟨p, rfl, ⟨_, SqL.of upd_same⟩, fun D nD => ?_⟩⟩
    have s1 : Same H (upd H p (.lst (((sds l).map sg).map V.str))) := same_upd np
    have hp1 : (upd H p (.lst (((sds l).map sg).map V.str))) p = some (.lst (((sds l).map sg).map V.str)) := upd_same
    generalize (upd H p (.lst (((sds l).map sg).map V.str))) = H1 at s1 nD hp1 ⊢
    have wk := walk_list (K := K) (a := p) (xs := ((sds l).map sg).map V.str)
    rw [List.length_map, List.length_map] at wk
    refine dc_it wk (fun i H' => ∃ ad, Same H1 H' ∧ SD8 H' ((sds l).take i) D ad (fun _ => []) ∧ ∀ s ∈ (sds l).take i, H1 (ad s) = none)
      ⟨fun _ => p, same_upd nD, ⟨upd_same, fun s hs => by simp at hs, fun s hs => by simp at hs⟩, fun s hs => by simp at hs⟩ (fun i H' _ h => by obtain ⟨ad, sm, _⟩ := h; exact SqL.of (sm _ _ hp1)) ?_ ?_
    · rintro i x H2 H3 hi ⟨ad, sm, S8, fr0⟩ ⟨rfl, hx⟩
      rw [List.getElem?_map, List.getElem?_map] at hx
      obtain ⟨z, hz, rfl⟩ := Option.map_eq_some_iff.mp hx
      obtain ⟨c, hc, rfl⟩ := Option.map_eq_some_iff.mp hz
      have hnc : c ∉ (sds l).take i := fun hm => by
        obtain ⟨j, hj⟩ := List.getElem?_of_mem hm
        have hji : j < i := by
          have := (List.getElem?_eq_some_iff.mp hj).1
          rw [List.length_take] at this
          omega
        rw [List.getElem?_take_of_lt hji] at hj
        exact absurd ((List.getElem?_inj (List.getElem?_eq_some_iff.mp hj).1 (sds_nd g)).mp (hj.trans hc.symm)) (Nat.ne_of_lt hji)
      refine ⟨rfl, yes_i ⟨_, rfl, Nat.zero_le _, fun r nr => ⟨stK ((sds l).take i) ad, Sum.inr (sg c), rfl, ?_, ?_, fun t => if t = c then r else ad t, ?_, ?_, ?_⟩⟩⟩
      · rw [upd_ne (ne_of_none S8.dk nr)]
        exact S8.dk
      · unfold stK
        rw [List.length_map, List.length_take, sizeLine_eq]
        have := sds_len g
        omega
      · exact sm_over (sm_upd sm nr) nD
      · have nrD : D ≠ r := ne_of_none S8.dk nr
        have e1 : ∀ t ∈ (sds l).take i, (if t = c then r else ad t) = ad t := fun t ht => if_neg fun e => hnc (by rw [← e]; exact ht)
        have tk : (sds l).take (i + 1) = (sds l).take i ++ [c] := by rw [List.take_add_one, hc]; rfl
        refine ⟨?_, fun t ht => ?_, fun t ht u hu e => ?_⟩
        · rw [upd_same, putK_new _ (stK_no hnc), tk]
          unfold stK
          rw [List.map_append]
          rw [List.map_congr_left (g := fun s => (Sum.inr (sg s), V.ref (if s = c then r else ad s))) fun t ht => by rw [e1 t ht]]
          simp
        · rw [tk] at ht
          rcases List.mem_append.mp ht with h | h
          · rw [e1 t h, upd_ne (S8.nd h), upd_ne (ne_of_none (S8.at_ t h) nr)]
            exact S8.at_ t h
          · obtain rfl := List.mem_singleton.mp h
            rw [if_pos rfl, upd_ne (Ne.symm nrD), upd_same]
            rfl
        · rw [tk] at ht hu
          rcases List.mem_append.mp ht with h | h <;> rcases List.mem_append.mp hu with h2 | h2
          · rw [e1 t h, e1 u h2] at e
            exact S8.inj t h u h2 e
          · obtain rfl := List.mem_singleton.mp h2
            rw [e1 t h, if_pos rfl] at e
            exact absurd e (ne_of_none (S8.at_ t h) nr)
          · obtain rfl := List.mem_singleton.mp h
            rw [e1 u h2, if_pos rfl] at e
            exact absurd e.symm (ne_of_none (S8.at_ u h2) nr)
          · rw [List.mem_singleton.mp h, List.mem_singleton.mp h2]
      · intro t ht
        show H1 (if t = c then r else ad t) = none
        by_cases e : t = c
        · rw [if_pos e]
          exact L2.Same.free sm nr
        · rw [if_neg e]
          refine fr0 t ?_
          rw [List.take_add_one, hc] at ht
          rcases List.mem_append.mp ht with h | h
          · exact h
          · exact absurd (List.mem_singleton.mp h) e
    · rintro H2 ⟨ad, sm, S8, fr0⟩
      rw [List.take_of_length_le (Nat.le_refl _)] at S8
      have nd0 : H D = none := L2.Same.free s1 nD
      have fr : ∀ s ∈ sds l, H (ad s) = none := fun s hs => L2.Same.free s1 (fr0 s (by rw [List.take_of_length_le (Nat.le_refl _)]; exact hs))
      have sm0 : Same H H2 := sm_trans s1 sm
      refine ⟨_, rfl, a, rfl, ?_⟩
      have len : ((bs.map tx).map V.str).length = bs.length := by rw [List.length_map, List.length_map]
      rcases hS with hS | hS
      · have wk2 := walk_list (K := K) (a := a) (xs := (bs.map tx).map V.str)
        rw [len] at wk2
        refine .inl ⟨⟨_, sm_l sm0 hS⟩, for_it wk2 (fun i σ H' => ∃ y3, σ = [some (.str (tx l)), some (.ref a), some (.ref D), y3, none] ∧ Same H H' ∧ SD8 H' (sds l) D ad (adjOf (bs.take i)))
          ⟨_, rfl, sm0, S8⟩ (fun i σ H' _ p => by obtain ⟨_, _, sm, _⟩ := p; exact sm_l sm hS) ?_ ?_⟩
        · rintro i x σ H5 H6 hi ⟨y3, rfl, sm5, S5⟩ ⟨rfl, hx⟩
          rw [List.getElem?_map, List.getElem?_map] at hx
          obtain ⟨z, hz, rfl⟩ := Option.map_eq_some_iff.mp hx
          obtain ⟨b, hbi, rfl⟩ := Option.map_eq_some_iff.mp hz
          obtain ⟨u, v, rfl, hu, hv, huv⟩ := bar_two (hbar b (List.mem_of_getElem? hbi))
          have hbz : (tx [u, v]).length ≤ sizeLine := by rw [tx_len, sizeLine_eq]; show 2 ≤ 16777216; decide
          have nuv : u ≠ v := fun e => by rw [e] at huv; exact Nat.lt_irrefl _ huv
          have hz1 : ∀ s, (adjOf (bs.take i) s).length ≤ 200 := fun s => by
            have h1 := adj_len (bs.take i) s
            have h2 : (bs.take i).length ≤ 100 := Nat.le_trans (by rw [List.length_take]; exact Nat.min_le_right _ _) hbl
            omega
          have S6 := S5.app (c := swp v) hu
          have S7 := S6.app (c := swp u) hv
          have nH : ∀ s ∈ sds l, ∀ o, Same H H6 → Same H (upd H6 (ad s) o) := fun s hs o z => sm_over z (fr s hs)
          refine ⟨_, rfl, _, rfl, _, _, u, rfl, rfl, hbz, rfl, D, _, rfl, S5.get hu, .inl ⟨rfl, _, SqL.of (S5.at_ u hu)⟩, _, rfl, _, _, v, rfl, rfl, hbz, rfl, v, rfl, sds_asc g hv, ad u, _, _, rfl, rfl, S5.at_ u hu, ?_, ?_⟩
          · rw [List.length_map, List.length_map, sizeLine_eq]
            have := hz1 u
            omega
          · refine ⟨_, rfl, _, rfl, _, _, v, rfl, rfl, hbz, rfl, D, _, rfl, S6.get hv, .inl ⟨rfl, _, SqL.of (S6.at_ v hv)⟩, _, rfl, _, _, u, rfl, rfl, hbz, rfl, u, rfl, sds_asc g hu, ad v, _, _, rfl, rfl, S6.at_ v hv, ?_, ?_⟩
            · rw [if_neg (Ne.symm nuv), List.length_map, List.length_map, sizeLine_eq]
              have := hz1 v
              omega
            · refine ⟨_, rfl, sm_over (sm_over sm5 (fr u hu)) (fr v hv), ?_⟩
              have ea : (fun t => if t = v then (if t = u then adjOf (bs.take i) t ++ [swp v] else adjOf (bs.take i) t) ++ [swp u] else if t = u then adjOf (bs.take i) t ++ [swp v] else adjOf (bs.take i) t) = adjOf (bs.take (i + 1)) := by
                funext t
                rw [adj_snoc bs i t [u, v] hbi]
                show _ = adjOf (bs.take i) t ++ ((if u = t then [swp v] else []) ++ (if v = t then [swp u] else []))
                by_cases e1 : t = u
                · subst e1
                  rw [if_neg nuv, if_pos rfl, if_pos rfl, if_neg (Ne.symm nuv)]
                  simp
                · rw [if_neg e1, if_neg (Ne.symm e1)]
                  by_cases e2 : t = v
                  · subst e2
                    rw [if_pos rfl, if_pos rfl]
                    simp
                  · rw [if_neg e2, if_neg (Ne.symm e2)]
                    simp [e1]
              rw [← ea]
              exact S7
        · rintro σ H5 ⟨y3, rfl, sm5, S5⟩
          rw [List.take_of_length_le (Nat.le_refl _)] at S5
          exact ⟨_, rfl, q H5 D ad sm5 nd0 S5⟩
      · have wk2 := walk_tup (K := K) (a := a) (xs := (bs.map tx).map V.str)
        rw [len] at wk2
        refine .inr ⟨⟨_, sm_t sm0 hS⟩, for_it wk2 (fun i σ H' => ∃ y3, σ = [some (.str (tx l)), some (.ref a), some (.ref D), y3, none] ∧ Same H H' ∧ SD8 H' (sds l) D ad (adjOf (bs.take i)))
          ⟨_, rfl, sm0, S8⟩ (fun i σ H' _ p => by obtain ⟨_, _, sm, _⟩ := p; exact sm_t sm hS) ?_ ?_⟩
        · rintro i x σ H5 H6 hi ⟨y3, rfl, sm5, S5⟩ ⟨rfl, hx⟩
          rw [List.getElem?_map, List.getElem?_map] at hx
          obtain ⟨z, hz, rfl⟩ := Option.map_eq_some_iff.mp hx
          obtain ⟨b, hbi, rfl⟩ := Option.map_eq_some_iff.mp hz
          obtain ⟨u, v, rfl, hu, hv, huv⟩ := bar_two (hbar b (List.mem_of_getElem? hbi))
          have hbz : (tx [u, v]).length ≤ sizeLine := by rw [tx_len, sizeLine_eq]; show 2 ≤ 16777216; decide
          have nuv : u ≠ v := fun e => by rw [e] at huv; exact Nat.lt_irrefl _ huv
          have hz1 : ∀ s, (adjOf (bs.take i) s).length ≤ 200 := fun s => by
            have h1 := adj_len (bs.take i) s
            have h2 : (bs.take i).length ≤ 100 := Nat.le_trans (by rw [List.length_take]; exact Nat.min_le_right _ _) hbl
            omega
          have S6 := S5.app (c := swp v) hu
          have S7 := S6.app (c := swp u) hv
          have nH : ∀ s ∈ sds l, ∀ o, Same H H6 → Same H (upd H6 (ad s) o) := fun s hs o z => sm_over z (fr s hs)
          refine ⟨_, rfl, _, rfl, _, _, u, rfl, rfl, hbz, rfl, D, _, rfl, S5.get hu, .inl ⟨rfl, _, SqL.of (S5.at_ u hu)⟩, _, rfl, _, _, v, rfl, rfl, hbz, rfl, v, rfl, sds_asc g hv, ad u, _, _, rfl, rfl, S5.at_ u hu, ?_, ?_⟩
          · rw [List.length_map, List.length_map, sizeLine_eq]
            have := hz1 u
            omega
          · refine ⟨_, rfl, _, rfl, _, _, v, rfl, rfl, hbz, rfl, D, _, rfl, S6.get hv, .inl ⟨rfl, _, SqL.of (S6.at_ v hv)⟩, _, rfl, _, _, u, rfl, rfl, hbz, rfl, u, rfl, sds_asc g hu, ad v, _, _, rfl, rfl, S6.at_ v hv, ?_, ?_⟩
            · rw [if_neg (Ne.symm nuv), List.length_map, List.length_map, sizeLine_eq]
              have := hz1 v
              omega
            · refine ⟨_, rfl, sm_over (sm_over sm5 (fr u hu)) (fr v hv), ?_⟩
              have ea : (fun t => if t = v then (if t = u then adjOf (bs.take i) t ++ [swp v] else adjOf (bs.take i) t) ++ [swp u] else if t = u then adjOf (bs.take i) t ++ [swp v] else adjOf (bs.take i) t) = adjOf (bs.take (i + 1)) := by
                funext t
                rw [adj_snoc bs i t [u, v] hbi]
                show _ = adjOf (bs.take i) t ++ ((if u = t then [swp v] else []) ++ (if v = t then [swp u] else []))
                by_cases e1 : t = u
                · subst e1
                  rw [if_neg nuv, if_pos rfl, if_pos rfl, if_neg (Ne.symm nuv)]
                  simp
                · rw [if_neg e1, if_neg (Ne.symm e1)]
                  by_cases e2 : t = v
                  · subst e2
                    rw [if_pos rfl, if_pos rfl]
                    simp
                  · rw [if_neg e2, if_neg (Ne.symm e2)]
                    simp [e1]
              rw [← ea]
              exact S7
        · rintro σ H5 ⟨y3, rfl, sm5, S5⟩
          rw [List.take_of_length_le (Nat.le_refl _)] at S5
          exact ⟨_, rfl, q H5 D ad sm5 nd0 S5⟩
end
end NC
namespace NC
open PySem PySem.Spec PyProof.Rows L2
abbrev sBSinit : Stmt := inClass (topS 4) 0
theorem scBS : FnScope ["self"] ["self"] (defScope sBSinit) := ⟨rfl, rfl, rfl, by decide +kernel, rfl, by decide +kernel, by decide +kernel⟩
/-- a refusal of its word alone -/
def sp0 (K : PySem.W.Frag) (word : Str) : Sp := fun vs H Q _ => ∃ a C, vs = [.ref a] ∧ OexC K C ∧ PySem.W.findIn K (.ref C) "word" = some none ∧ H a = some (exo a C none) ∧
  ∀ dx H', H dx = none → dx ≠ a → (∀ b, b ≠ dx → b ≠ a → H' b = H b) → H' a = some (exo a C (some dx)) → H' dx = some (exd dx [("word", .str word)]) → Q .non H'
structure XC0 (K : PySem.W.Frag) (mg : Str → Option Value) (x q : Str) (st : Stmt) (C fI : Addr) (fd : FuncData) : Prop where
  gC : mg x = some (.ref C)
  O : OexC K C
  hw : PySem.W.findIn K (.ref C) "word" = some none
  iC : PySem.W.findIn K (.ref C) "__init__" = some (some (.ref fI))
  tI : PySem.W.typeIn K (.ref fI) = some (.type "function")
  F : Fun K "__init__" q st fI fd
  b : Binds K fd ["self"] []
theorem mk0 {K : PySem.W.Frag} {C : Addr} {word : Str} (hO : OexC K C) (hw : PySem.W.findIn K (.ref C) "word" = some none) {H1 : Hp} {Q : XK}
    (q : ∀ d H', Same H1 H' → H1 d = none → H' d = some (.xd [("word", .str word)]) → Q (.ref C) (some d) H') :
    ∀ a, H1 a = none → sp0 K word (.ref a :: ([] ++ [])) (upd H1 a (exo a C none))
      (fun u H2 => u = .non ∧ ∃ (d : Addr) (fs : List (Str × V)), H2 a = some (exo a C (some d)) ∧ H2 d = some (exd d fs) ∧ H1 d = none ∧ Q (.ref C) (some d) (upd (del H2 a) d (.xd fs))) (fun _ _ _ => False) := by
  intro a na
  refine ⟨a, C, rfl, hO, hw, upd_same, fun dx H' n1 n2 k e1 e2 => ?_⟩
  have hd : H1 dx = none := by
    rw [upd_ne n2] at n1
    exact n1
  refine ⟨rfl, dx, _, e1, e2, hd, q dx _ (fun b o hb => ?_) hd upd_same⟩
  have b1 : b ≠ dx := ne_of_none hb hd
  have b2 : b ≠ a := ne_of_none hb na
  rw [upd_ne b1, del_ne b2, k b b1 b2, upd_ne b2]
  exact hb
section
variable {P : Program} {w : World} {K : PySem.W.Frag} {mg : Str → Option Value} {base : Heap}
theorem ok_BS {CH fH f : Addr} {fd fdH : FuncData} {k : Nat} (T : HE K mg CH fH fdH) (F : Fun K "__init__" "BadSide.__init__" sBSinit f fd) : FnOk P w K mg base CX0 (k + 2) f fd ["self"] (sp0 K "badside") := by
  have GH : FnOk P w K mg base CX0 (k + 1) fH fdH ["self", "word"] (spHE K) := ok_HE T
  obtain ⟨mc, rd, fc⟩ := T.rd
  refine F.ok scBS (fun vs H Q E h => ?_) (fun cdv A outer s H vs Q E hr h => ?_)
  · obtain ⟨a, C, rfl, _⟩ := h
    rfl
  · obtain ⟨a, C, rfl, hO, hw, ha, q⟩ := h
    refine ⟨_, pss_one (ps_expr (pe_clsfn (by rfl) T.gC rd fc GH hr T.F.kp T.b .nil pass0 (pa_cons (pv 0) (pa_cons pe_str pa_nil)))), ?_⟩
    refine ⟨_, rfl, a, C, _, rfl, hO, hw, ha, fun dx n ne => q dx _ n ne (fun b h1 h2 => ?_) upd_same ?_⟩
    · rw [upd_ne h2, upd_ne h1]
    · rw [upd_ne ne, upd_same]
def spChkSide (CS : Addr) : Sp := fun vs H Q E => ∃ l z, vs = [.str (tx l), .str z] ∧ GoodW l ∧
  (z ∈ (sds l).map sg → ∀ H', Same H H' → Q .non H') ∧ (z ∉ (sds l).map sg → ∀ H' d, Same H H' → H d = none → H' d = some (.xd [("word", .str "badside")]) → E (.ref CS) (some d) H')
theorem ok_chkSide {f fS CS iS CH fH : Addr} {fd fdS eS fdH : FuncData} {k : Nat} (B : BM mg) (F : Fun K "check_side" "check_side" sChkSide f fd) (S : DF K mg "sides_of" sSides ["walls"] fS fdS) (T : HE K mg CH fH fdH) (X : XC0 K mg "BadSide" "BadSide.__init__" sBSinit CS iS eS) :
    FnOk P w K mg base (L2.CX P w) (k + 4) f fd ["walls", "side"] (spChkSide CS) := by
  have GS : FnOk P w K mg base CX0 (k + 1) fS fdS ["walls"] spSides := ok_sides B S.F
  have GB : FnOk P w K mg base CX0 (k + 2) iS eS ["self"] (sp0 K "badside") := ok_BS T X.F
  refine F.okX scChkSide (fun vs H Q E h => ?_) (fun cdv A outer s H vs Q E hr h => ?_)
  · obtain ⟨l, c, rfl, _⟩ := h
    rfl
  · obtain ⟨l, z, rfl, g, q, qe⟩ := h
    refine ⟨_, pss_one (ps_if (pt_cmpR op_notIn_seq (pv 1) (pe_call GS (hr.mono (by omega)) rfl S.g S.F.kp S.b .nil pass0 (pa_cons (pv 0) pa_nil)) (by rfl))
      (pss_one (ps_raise rfl (takes_of rfl rfl rfl rfl) (pmk_oex0 X.O X.iC X.tI GB hr X.b (by rfl) X.gC))) pss_nil), ?_⟩
    refine ⟨_, rfl, _, rfl, l, rfl, g.asc, by have := g.hi; omega, fun p hp => ⟨p, _, rfl, .inl (SqL.of upd_same), rfl, flat_str _, _, rfl, ?_⟩⟩
    show if (!inV (.str z) (((sds l).map sg).map V.str)) = true then _ else _
    rw [inV_str]
    by_cases hz : z ∈ (sds l).map sg
    · rw [decide_eq_true hz]
      exact iteF (q hz _ (same_upd hp))
    · rw [decide_eq_false hz]
      have s1 : Same H (upd H p (.lst (((sds l).map sg).map V.str))) := same_upd hp
      exact iteT ⟨Nat.zero_le _, mk0 X.O X.hw fun d H4 s4 n4 e4 => qe hz H4 d (sm_trans s1 s4) (L2.Same.free s1 n4) e4⟩
end
end NC
namespace NC
open PySem PySem.Spec PyProof.Rows L2
abbrev sReached : Stmt := topS 17
theorem scReached : FnScope ["straight", "one", "ahead", "wave", "later", "side", "met"] ["straight", "one"] (defScope sReached) := ⟨rfl, rfl, rfl, by decide +kernel, rfl, by decide +kernel, by decide +kernel⟩
def pV : Option Nat → V
  | none => .non
  | some c => .str (sg c)
def ahK (rs : List (Nat × Option Nat)) : List (Key × V) := rs.map fun r => (Sum.inr (sg r.1), pV r.2)
def kys (rs : List (Nat × Option Nat)) : List Nat := rs.map (·.1)
theorem ahK_no {rs : List (Nat × Option Nat)} {s : Nat} (h : s ∉ kys rs) : valV (ahK rs) (Sum.inr (sg s)) = none := by
  induction rs with
  | nil => rfl
  | cons r t ih =>
    have e : ¬ r.1 = s := fun z => h (by show s ∈ r.1 :: kys t; rw [z]; exact List.mem_cons_self ..)
    exact (valV_neg (p := (Sum.inr (sg r.1), pV r.2)) (fun z => e (sg_inj (Sum.inr.inj z)))).trans (ih fun z => h (List.mem_cons_of_mem _ z))
theorem ahK_some {rs : List (Nat × Option Nat)} {s : Nat} (h : s ∈ kys rs) : ∃ (i : Nat) (p : Option Nat), rs[i]? = some (s, p) ∧ valV (ahK rs) (Sum.inr (sg s)) = some (pV p) := by
  induction rs with
  | nil => cases h
  | cons r t ih =>
    by_cases e : r.1 = s
    · exact ⟨0, r.2, by rw [← e]; rfl, by rw [← e]; exact valV_pos (p := (Sum.inr (sg r.1), pV r.2)) rfl⟩
    · have h2 : s ∈ kys t := by
        rcases List.mem_cons.mp (show s ∈ r.1 :: kys t from h) with z | z
        · exact absurd z.symm e
        · exact z
      obtain ⟨i, p, h3, h4⟩ := ih h2
      exact ⟨i + 1, p, h3, (valV_neg (p := (Sum.inr (sg r.1), pV r.2)) (fun z => e (sg_inj (Sum.inr.inj z)))).trans h4⟩
theorem nd_len : ∀ (a L : List Nat), a.Nodup → (∀ x ∈ a, x ∈ L) → a.length ≤ L.length
  | [], L, _, _ => Nat.zero_le _
  | x :: r, L, hn, hs => by
    obtain ⟨n1, n2⟩ := List.nodup_cons.mp hn
    have m : x ∈ L := hs x (List.mem_cons_self ..)
    have hl := List.length_erase_of_mem m
    have q := nd_len r (L.erase x) n2 fun z hz => (List.mem_erase_of_ne (fun e : z = x => n1 (by rw [← e]; exact hz))).mpr (hs z (List.mem_cons_of_mem _ hz))
    have hp : 0 < L.length := List.length_pos_of_mem m
    rw [List.length_cons]
    omega
/-- the same, to be read alone (the dict may be walked) -/
structure SR8 (H : Hp) (L : List Nat) (d : Addr) (ad : Nat → Addr) (adj : Nat → List Nat) : Prop where
  dk : Rd H d (.dK (stK L ad))
  at_ : ∀ s ∈ L, H (ad s) = some (.lst (((adj s).map sg).map V.str))
theorem SD8.rd {H : Hp} {L : List Nat} {d : Addr} {ad : Nat → Addr} {adj : Nat → List Nat} (S : SD8 H L d ad adj) : SR8 H L d ad adj := ⟨.inl S.dk, S.at_⟩
theorem SR8.same {H H' : Hp} {L : List Nat} {d : Addr} {ad : Nat → Addr} {adj : Nat → List Nat} (S : SR8 H L d ad adj) (e : Same H H') : SR8 H' L d ad adj :=
  ⟨S.dk.elim (fun z => .inl (e _ _ z)) fun ⟨o, z⟩ => .inr ⟨o, e _ _ z⟩, fun s hs => e _ _ (S.at_ s hs)⟩
theorem SR8.get {H : Hp} {L : List Nat} {d : Addr} {ad : Nat → Addr} {adj : Nat → List Nat} (S : SR8 H L d ad adj) {s : Nat} (h : s ∈ L) : DGet H d (.str (sg s)) (some (.ref (ad s))) := by
  rw [← stK_val (ad := ad) h]
  exact .inl ⟨_, Sum.inr (sg s), S.dk, rfl, rfl⟩
structure RsOk (L : List Nat) (adj : Nat → List Nat) (one : Nat) (rs : List (Nat × Option Nat)) : Prop where
  hd : ∃ r, rs = (one, none) :: r
  nd : (kys rs).Nodup
  sub : ∀ s ∈ kys rs, s ∈ L
  par : ∀ (i s : Nat) (p : Option Nat), rs[i]? = some (s, p) → (i = 0 ∧ p = none) ∨ ∃ c j q, p = some c ∧ j < i ∧ rs[j]? = some (c, q) ∧ s ∈ adj c
theorem RsOk.len {L : List Nat} {adj : Nat → List Nat} {one : Nat} {rs : List (Nat × Option Nat)} (h : RsOk L adj one rs) : rs.length ≤ L.length := by
  have := nd_len (kys rs) L h.nd h.sub
  rw [kys, List.length_map] at this
  exact this
theorem RsOk.snoc {L : List Nat} {adj : Nat → List Nat} {one s m : Nat} {rs : List (Nat × Option Nat)} (h : RsOk L adj one rs) (hs : s ∈ kys rs) (hm : m ∈ adj s) (hL : m ∈ L) (hn : m ∉ kys rs) : RsOk L adj one (rs ++ [(m, some s)]) := by
  obtain ⟨r, e⟩ := h.hd
  have ek : kys (rs ++ [(m, some s)]) = kys rs ++ [m] := by simp [kys]
  refine ⟨⟨r ++ [(m, some s)], by rw [e]; rfl⟩, ?_, fun t ht => ?_, fun i t p hi => ?_⟩
  · rw [ek]
    exact nd_snoc h.nd hn
  · rw [ek] at ht
    rcases List.mem_append.mp ht with z | z
    · exact h.sub t z
    · rw [List.mem_singleton.mp z]; exact hL
  · rcases Nat.lt_or_ge i rs.length with hl | hl
    · rw [List.getElem?_append_left hl] at hi
      rcases h.par i t p hi with z | ⟨c, j, q, h1, h2, h3, h4⟩
      · exact .inl z
      · exact .inr ⟨c, j, q, h1, h2, by rw [List.getElem?_append_left (by omega)]; exact h3, h4⟩
    · rw [List.getElem?_append_right hl] at hi
      have hi0 : i - rs.length = 0 := by
        have := (List.getElem?_eq_some_iff.mp hi).1
        simp at this
        omega
      rw [hi0] at hi
      have e2 : (m, some s) = (t, p) := Option.some.inj hi
      cases e2
      obtain ⟨j, q, hj⟩ : ∃ (j : Nat) (q : Option Nat), rs[j]? = some (s, q) := by
        obtain ⟨x, hx, ex⟩ := List.mem_map.mp hs
        obtain ⟨j, hj⟩ := List.getElem?_of_mem hx
        exact ⟨j, x.2, by rw [hj, ← ex]⟩
      have hjl := (List.getElem?_eq_some_iff.mp hj).1
      exact .inr ⟨s, j, q, rfl, by omega, by rw [List.getElem?_append_left hjl]; exact hj, hm⟩
theorem ahK_snoc (rs : List (Nat × Option Nat)) (m s : Nat) (h : m ∉ kys rs) : putK (ahK rs) (Sum.inr (sg m)) (.str (sg s)) = ahK (rs ++ [(m, some s)]) := by
  rw [putK_new _ (ahK_no h)]
  unfold ahK
  rw [List.map_append]
  rfl
inductive Wk (adj : Nat → List Nat) (one : Nat) : Nat → Nat → Prop
  | zero : Wk adj one 0 one
  | step {n s c : Nat} : Wk adj one n s → c ∈ adj s → Wk adj one (n + 1) c
def Dst (adj : Nat → List Nat) (one n s : Nat) : Prop := Wk adj one n s ∧ ∀ m, m < n → ¬ Wk adj one m s
theorem Dst.uniq {adj : Nat → List Nat} {one n m s : Nat} (a : Dst adj one n s) (b : Dst adj one m s) : n = m := by
  rcases Nat.lt_trichotomy n m with h | h | h
  · exact absurd a.1 (b.2 n h)
  · exact h
  · exact absurd b.1 (a.2 m h)
def Lvl (adj : Nat → List Nat) (one : Nat) (rs : List (Nat × Option Nat)) : Prop := ∀ (i s c : Nat), rs[i]? = some (s, some c) → ∃ m, Dst adj one m c ∧ Dst adj one (m + 1) s
def Fil (adj : Nat → List Nat) (one n : Nat) (rs : List (Nat × Option Nat)) : Prop := ∀ m t, m ≤ n → Wk adj one m t → t ∈ kys rs
def Frn (adj : Nat → List Nat) (one n : Nat) (wv : List Nat) : Prop := ∀ t ∈ wv, Dst adj one n t
theorem Dst.zero {adj : Nat → List Nat} {one : Nat} : Dst adj one 0 one := ⟨.zero, fun m h => absurd h (Nat.not_lt_zero _)⟩
theorem Lvl.one {adj : Nat → List Nat} {one : Nat} : Lvl adj one [(one, none)] := fun i s c h => by
  have hi := (List.getElem?_eq_some_iff.mp h).1
  have h0 : i = 0 := by simp at hi; omega
  subst h0
  cases h
theorem Fil.one {adj : Nat → List Nat} {one : Nat} : Fil adj one 0 [(one, none)] := fun m t h w => by
  obtain rfl : m = 0 := by omega
  cases w
  simp [kys]
theorem Frn.one {adj : Nat → List Nat} {one : Nat} : Frn adj one 0 [one] := fun t h => by rw [List.mem_singleton.mp h]; exact .zero
theorem Lvl.snoc {adj : Nat → List Nat} {one n s m : Nat} {rs : List (Nat × Option Nat)} (h : Lvl adj one rs) (a : Dst adj one n s) (b : Dst adj one (n + 1) m) : Lvl adj one (rs ++ [(m, some s)]) := fun i t c hi => by
  rcases Nat.lt_or_ge i rs.length with hl | hl
  · rw [List.getElem?_append_left hl] at hi
    exact h i t c hi
  · rw [List.getElem?_append_right hl] at hi
    have h0 : i - rs.length = 0 := by
      have := (List.getElem?_eq_some_iff.mp hi).1
      simp at this
      omega
    rw [h0] at hi
    cases hi
    exact ⟨n, a, b⟩
theorem Frn.snoc {adj : Nat → List Nat} {one n m : Nat} {wv : List Nat} (h : Frn adj one n wv) (b : Dst adj one n m) : Frn adj one n (wv ++ [m]) := fun t ht => by
  rcases List.mem_append.mp ht with z | z
  · exact h t z
  · rw [List.mem_singleton.mp z]; exact b
theorem Fil.next {adj : Nat → List Nat} {one n : Nat} {rs rs2 : List (Nat × Option Nat)} {lt : List Nat} (f : Fil adj one n rs) (k : ∀ t ∈ kys rs, t ∈ kys rs2) (fr : Frn adj one (n + 1) lt) (cl : ∀ u ∈ kys rs2, u ∉ lt → ∀ c ∈ adj u, c ∈ kys rs2) : Fil adj one (n + 1) rs2 := fun m t hm w => by
  rcases Nat.lt_or_ge n m with h | h
  · obtain rfl : m = n + 1 := by omega
    cases w with
    | step ws ht => exact cl _ (k _ (f n _ (Nat.le_refl _) ws)) (fun z => (fr _ z).2 n (Nat.lt_succ_self _) ws) t ht
  · exact k t (f m t h w)
theorem reach_in {adj : Nat → List Nat} {one : Nat} {rs : List (Nat × Option Nat)} (h0 : one ∈ kys rs) (cl : ∀ s ∈ kys rs, ∀ c ∈ adj s, c ∈ kys rs) {n s : Nat} (w : Wk adj one n s) : s ∈ kys rs := by
  induction w with
  | zero => exact h0
  | step _ hc ih => exact cl _ ih _ hc
section
variable {P : Program} {w : World} {K : PySem.W.Frag} {mg : Str → Option Value} {base : Heap}
def spReached : Sp := fun vs H Q _ => ∃ L d ad adj one, vs = [.ref d, .str (sg one)] ∧ SR8 H L d ad adj ∧ one ∈ L ∧ (∀ s ∈ L, ∀ c ∈ adj s, c ∈ L) ∧ L.length ≤ 24 ∧
  ∀ H' a rs, Same H H' → H a = none → RsOk L adj one rs → (∀ s ∈ kys rs, ∀ c ∈ adj s, c ∈ kys rs) → Lvl adj one rs → H' a = some (.dK (ahK rs)) → Q (.ref a) H'
set_option maxHeartbeats 1000000 in
theorem ok_reached {f : Addr} {fd : FuncData} {k : Nat} (F : Fun K "reached" "reached" sReached f fd) : FnOk P w K mg base CX0 (k + 1) f fd ["straight", "one"] spReached := by
  refine F.ok scReached (fun vs H Q E h => ?_) (fun cdv A outer s H vs Q E hr h => ?_)
  · obtain ⟨L, d, ad, adj, one, rfl, _⟩ := h
    rfl
  · obtain ⟨L, d, ad, adj, one, rfl, S8, hone, hadj, hL, q⟩ := h
    refine ⟨_, pss_cons (ps_set (i := 2) scReached.nd rfl (.inl rfl) (pe_disp (pps_cons (pv 1) pe_non pps_nil) (by rfl) (by rfl) (fun z => by cases z) (by decide)))
      (pss_cons (ps_set (i := 3) scReached.nd rfl (.inl rfl) (pe_lst (pa_cons (pv 1) pa_nil)))
      (pss_cons (ps_while PassesOwn.never (pt_truth (pv 3) (by intro _; rfl))
        (pss_cons (ps_set (i := 4) scReached.nd rfl (.inl rfl) (pe_lst pa_nil))
        (pss_cons (ps_for PassesOwn.never rfl (pi_list (pv 3)) (pg_name (i := 5) scReached.nd rfl (Or.inl rfl))
          (pss_one (ps_for PassesOwn.never rfl (pi_list (pe_dget (hu_of hr) (pv 0) (pv 5) (fun _ _ => rfl))) (pg_name (i := 6) scReached.nd rfl (Or.inl rfl))
            (pss_one (ps_if (pt_cmp (pc_dnotin (hu_of hr) (pv 6) (pv 2)))
              (pss_cons (ps_dput (hu_of hr) (pv 2) (pv 6) (pv 5) rfl)
              (pss_one (ps_expr (pe_bm PySem.F.plainAttrs_list PySem.F.slot_list_append PySem.F.type_list_append mt_append (pv 4) (pa_cons (pv 6) pa_nil))))) pss_nil)))))
        (pss_one (ps_set (i := 3) scReached.nd rfl (.inl rfl) (pv 4))))))
      (pss_one (ps_ret (pv 2))))), ?_⟩
    refine fun A0 nA => ⟨_, rfl, upd_same, [(Sum.inr (sg one), .non)], rfl, by show 1 ≤ 15; decide, ?_⟩
    have eA : upd (upd H A0 (.dK [])) A0 (.dK (mergeK [] [(Sum.inr (sg one), .non)])) = upd H A0 (.dK (ahK [(one, none)])) := by
      rw [L2.upd_upd]
      rfl
    rw [eA]
    refine ⟨_, rfl, by show 1 ≤ sizeLine; decide, fun W0 nW => ?_⟩
    have nAW : A0 ≠ W0 := ne_of_none upd_same nW
    have nW0 : H W0 = none := by
      rw [upd_ne (Ne.symm nAW)] at nW
      exact nW
    -- the while
    refine ⟨fun m σ H' => ∃ rs wv Wd y4 y5 y6, σ = [some (.ref d), some (.str (sg one)), some (.ref A0), some (.ref Wd), y4, y5, y6] ∧ Same H H' ∧ H Wd = none ∧ H' A0 = some (.dK (ahK rs)) ∧ H' Wd = some (.lst ((wv.map sg).map V.str)) ∧
      RsOk L adj one rs ∧ (∀ t ∈ wv, t ∈ kys rs) ∧ wv.length ≤ 24 ∧ (∀ t ∈ kys rs, t ∉ wv → ∀ c ∈ adj t, c ∈ kys rs) ∧ (∃ n, Lvl adj one rs ∧ Fil adj one n rs ∧ Frn adj one n wv) ∧ m = 2 * (24 - rs.length) + (if wv = [] then 0 else 1), ?_, ?_⟩
    · refine ⟨_, [(one, none)], [one], W0, _, _, _, rfl, sm_upd (same_upd nA) nW, nW0, ?_, upd_same, ⟨⟨[], rfl⟩, by simp [kys], fun t ht => ?_, fun i t p hi => ?_⟩, fun t ht => by simpa [kys] using ht, by show 1 ≤ 24; decide, fun t ht hn => ?_, ⟨0, Lvl.one, Fil.one, Frn.one⟩, rfl⟩
      · rw [upd_ne nAW, upd_same]
      · have e : t = one := by simpa [kys] using ht
        rw [e]; exact hone
      · have hi0 : i = 0 := by
          have := (List.getElem?_eq_some_iff.mp hi).1
          simp at this
          omega
        subst hi0
        cases hi
        exact .inl ⟨rfl, rfl⟩
      · have e : t = one := by simpa [kys] using ht
        exact absurd (by simp [e]) hn
    · rintro m σ H1 ⟨rs, wv, Wd, y4, y5, y6, rfl, sm, nWd, eA1, eW, R, hwv, hwl, hdone, ⟨n, LV, FL, FR⟩, rfl⟩
      refine ⟨_, rfl, _, .inl ⟨_, SqL.of eW, rfl⟩, ite2 (fun hne => ?_) (fun he => ?_)⟩
      · -- a turn of the while
        have hw0 : wv ≠ [] := fun z => by
          rw [z] at hne
          exact absurd hne (by decide)
        refine ⟨fun σ' H' => ∃ (rs2 : List (Nat × Option Nat)) (lt : List Nat) (Wd2 : Addr) (y4 y5 y6 : Option V), σ' = [some (.ref d), some (.str (sg one)), some (.ref A0), some (.ref Wd2), y4, y5, y6] ∧ Same H H' ∧ H Wd2 = none ∧ H' A0 = some (.dK (ahK rs2)) ∧ H' Wd2 = some (.lst ((lt.map sg).map V.str)) ∧
          RsOk L adj one rs2 ∧ (∀ t ∈ lt, t ∈ kys rs2) ∧ lt.length ≤ 24 ∧ (∀ t ∈ kys rs2, t ∉ lt → ∀ c ∈ adj t, c ∈ kys rs2) ∧ (∃ n, Lvl adj one rs2 ∧ Fil adj one n rs2 ∧ Frn adj one n lt) ∧ rs2.length = rs.length + lt.length, ?_, ?_⟩
        · rintro σ' H' ⟨rs2, lt, Wd2, y4, y5, y6, h1, h2, h3, h4, h5, h6, h7, h8, h9, hL, h10⟩
          refine ⟨_, ?_, rs2, lt, Wd2, y4, y5, y6, h1, h2, h3, h4, h5, h6, h7, h8, h9, hL, rfl⟩
          have l2 := h6.len
          rw [if_neg hw0]
          by_cases e : lt = []
          · rw [if_pos e, h10, e]
            simp
          · rw [if_neg e, h10]
            have : 0 < lt.length := List.length_pos_iff.mpr e
            omega
        · refine ⟨Nat.zero_le _, fun T nT => ?_⟩
          have nTA : A0 ≠ T := ne_of_none eA1 nT
          have nTW : Wd ≠ T := ne_of_none eW nT
          have nTH : H T = none := L2.Same.free sm nT
          have wk := walk_list (K := K) (a := Wd) (xs := (wv.map sg).map V.str)
          rw [List.length_map, List.length_map] at wk
          refine ⟨_, rfl, Wd, rfl, ⟨_, SqL.of (by rw [upd_ne nTW]; exact eW)⟩, for_it wk (fun i σ H' => ∃ (rs2 : List (Nat × Option Nat)) (lt : List Nat) (y5 y6 : Option V), σ = [some (.ref d), some (.str (sg one)), some (.ref A0), some (.ref Wd), some (.ref T), y5, y6] ∧ Same H H' ∧ H' A0 = some (.dK (ahK rs2)) ∧
            H' Wd = some (.lst ((wv.map sg).map V.str)) ∧ H' T = some (.lst ((lt.map sg).map V.str)) ∧ RsOk L adj one rs2 ∧ rs2.length = rs.length + lt.length ∧ (∀ t ∈ kys rs, t ∈ kys rs2) ∧ (∀ t ∈ lt, t ∈ kys rs2) ∧
            (∀ t ∈ kys rs2, t ∉ lt → t ∉ wv.drop i → ∀ c ∈ adj t, c ∈ kys rs2) ∧ Lvl adj one rs2 ∧ Frn adj one (n + 1) lt)
            ⟨rs, [], _, _, rfl, sm_upd sm nT, by rw [upd_ne nTA]; exact eA1, by rw [upd_ne nTW]; exact eW, upd_same, R, rfl, fun _ h => h, (fun t h => absurd h (by simp)), (fun t h1 _ h2 => hdone t h1 h2), LV, (fun t h => absurd h (by simp))⟩
            (fun i σ H' _ p => by obtain ⟨_, _, _, _, _, _, _, h, _⟩ := p; exact SqL.of h) ?_ ?_⟩
          · rintro i x σ H2 H3 hi ⟨rs2, lt, y5, y6, rfl, s2, a2, w2, t2, R2, len2, k2, lk2, dn2, LV2, FR2⟩ ⟨rfl, hx⟩
            rw [List.getElem?_map, List.getElem?_map] at hx
            obtain ⟨z, hz, rfl⟩ := Option.map_eq_some_iff.mp hx
            obtain ⟨t, ht, rfl⟩ := Option.map_eq_some_iff.mp hz
            have htk : t ∈ kys rs2 := k2 t (hwv t (List.mem_of_getElem? ht))
            have htL : t ∈ L := R2.sub t htk
            have S2 : SR8 H3 L d ad adj := S8.same s2
            have wk3 := walk_list (K := K) (a := ad t) (xs := ((adj t).map sg).map V.str)
            rw [List.length_map, List.length_map] at wk3
            refine ⟨_, rfl, _, rfl, d, _, rfl, S2.get htL, ad t, rfl, ⟨_, SqL.of (S2.at_ t htL)⟩, for_it wk3 (fun j σ H' => ∃ (rs3 : List (Nat × Option Nat)) (lt3 : List Nat) (y6 : Option V), σ = [some (.ref d), some (.str (sg one)), some (.ref A0), some (.ref Wd), some (.ref T), some (.str (sg t)), y6] ∧ Same H H' ∧
              H' A0 = some (.dK (ahK rs3)) ∧ H' Wd = some (.lst ((wv.map sg).map V.str)) ∧ H' T = some (.lst ((lt3.map sg).map V.str)) ∧ RsOk L adj one rs3 ∧ rs3.length = rs.length + lt3.length ∧ (∀ u ∈ kys rs2, u ∈ kys rs3) ∧ (∀ u ∈ lt3, u ∈ kys rs3) ∧
              (∀ u ∈ kys rs3, u ∉ lt3 → u ∉ wv.drop i → ∀ c ∈ adj u, c ∈ kys rs3) ∧ (∀ c ∈ (adj t).take j, c ∈ kys rs3) ∧ Lvl adj one rs3 ∧ Frn adj one (n + 1) lt3)
              ⟨rs2, lt, _, rfl, s2, a2, w2, t2, R2, len2, fun _ h => h, lk2, dn2, (fun _ h => by simp at h), LV2, FR2⟩
              (fun j σ H' _ p => by obtain ⟨_, _, _, _, s3, _⟩ := p; exact SqL.of ((S8.same s3).at_ t htL)) ?_ ?_⟩
            · rintro j x σ H4 H5 hj ⟨rs3, lt3, y6, rfl, s3, a3, w3, t3, R3, len3, k3, lk3, dn3, tk3, LV3, FR3⟩ ⟨rfl, hx⟩
              rw [List.getElem?_map, List.getElem?_map] at hx
              obtain ⟨z, hz, rfl⟩ := Option.map_eq_some_iff.mp hx
              obtain ⟨m, hm, rfl⟩ := Option.map_eq_some_iff.mp hz
              have hma : m ∈ adj t := List.mem_of_getElem? hm
              have hmL : m ∈ L := hadj t htL m hma
              have l3 := R3.len
              have tkS : (adj t).take (j + 1) = (adj t).take j ++ [m] := by rw [List.take_add_one, hm]; rfl
              refine ⟨_, rfl, _, rfl, A0, _, rfl, DGet.k (k := Sum.inr (sg m)) a3, _, rfl, ite2 (fun hn => ?_) (fun hn => ?_)⟩
              · have hmn : m ∉ kys rs3 := fun z => by
                  obtain ⟨_, p, _, e⟩ := ahK_some z
                  rw [e] at hn
                  exact absurd hn Bool.false_ne_true
                have R4 := R3.snoc (k3 t htk) hma hmL hmn
                have dT : Dst adj one n t := FR t (List.mem_of_getElem? ht)
                have dM : Dst adj one (n + 1) m := ⟨.step dT.1 hma, fun j hj w => hmn (k3 m (k2 m (FL j m (by omega) w)))⟩
                have l4 := R4.len
                rw [List.length_append] at l4
                have l4 : rs3.length + 1 ≤ L.length := l4
                have ek : kys (rs3 ++ [(m, some t)]) = kys rs3 ++ [m] := by simp [kys]
                refine ⟨_, rfl, _, rfl, _, rfl, A0, _, rfl, DPut.k (k := Sum.inr (sg m)) a3 (by unfold ahK; rw [List.length_map, sizeLine_eq]; omega), ?_⟩
                rw [ahK_snoc rs3 m t hmn]
                have eT : (upd H5 A0 (.dK (ahK (rs3 ++ [(m, some t)])))) T = some (.lst ((lt3.map sg).map V.str)) := by rw [upd_ne (Ne.symm nTA)]; exact t3
                refine ⟨_, rfl, .inl ⟨rfl, _, SqL.of eT⟩, _, rfl, T, _, _, rfl, rfl, eT, by rw [List.length_map, List.length_map, sizeLine_eq]; omega, ?_⟩
                refine ⟨rs3 ++ [(m, some t)], lt3 ++ [m], _, rfl, sm_over (sm_over s3 nA) nTH, ?_, ?_, ?_, R4, ?_, fun u hu => ?_, fun u hu => ?_, fun u h1 h2 h3 c hc => ?_, fun c hc => ?_, LV3.snoc dT dM, FR3.snoc dM⟩
                · rw [upd_ne nTA, upd_same]
                · rw [upd_ne nTW, upd_ne (ne_of w3 a3 fun z => by cases z)]
                  exact w3
                · rw [upd_same, List.map_append, List.map_append]
                  rfl
                · rw [List.length_append, List.length_append, len3]
                  rfl
                · rw [ek]; exact List.mem_append_left _ (k3 u hu)
                · rw [ek]
                  rcases List.mem_append.mp hu with z | z
                  · exact List.mem_append_left _ (lk3 u z)
                  · exact List.mem_append_right _ z
                · rw [ek] at h1 ⊢
                  have h4 : u ∉ lt3 := fun z => h2 (List.mem_append_left _ z)
                  have h5 : u ∈ kys rs3 := by
                    rcases List.mem_append.mp h1 with z | z
                    · exact z
                    · exact absurd (List.mem_append_right _ z) h2
                  exact List.mem_append_left _ (dn3 u h5 h4 h3 c hc)
                · rw [ek]
                  rw [tkS] at hc
                  rcases List.mem_append.mp hc with z | z
                  · exact List.mem_append_left _ (tk3 c z)
                  · exact List.mem_append_right _ z
              · have hmi : m ∈ kys rs3 := by
                  refine Classical.byContradiction fun z => hn ?_
                  rw [ahK_no z]
                  rfl
                refine ⟨rs3, lt3, _, rfl, s3, a3, w3, t3, R3, len3, k3, lk3, dn3, fun c hc => ?_, LV3, FR3⟩
                rw [tkS] at hc
                rcases List.mem_append.mp hc with z | z
                · exact tk3 c z
                · rw [List.mem_singleton.mp z]; exact hmi
            · rintro σ H4 ⟨rs3, lt3, y6, rfl, s3, a3, w3, t3, R3, len3, k3, lk3, dn3, tk3, LV3, FR3⟩
              rw [List.take_of_length_le (Nat.le_refl _)] at tk3
              refine ⟨rs3, lt3, _, _, rfl, s3, a3, w3, t3, R3, len3, fun u hu => k3 u (k2 u hu), lk3, fun u h1 h2 h3 c hc => ?_, LV3, FR3⟩
              by_cases e : u = t
              · rw [e] at hc
                exact tk3 c hc
              · refine dn3 u h1 h2 (fun z => h3 ?_) c hc
                rw [List.drop_eq_getElem_cons hi] at z
                rcases List.mem_cons.mp z with z | z
                · have e2 : wv[i] = t := by
                    rw [List.getElem?_eq_getElem hi] at ht
                    exact Option.some.inj ht
                  exact absurd (z.trans e2) e
                · exact z
          · rintro σ H4 ⟨rs2, lt, y5, y6, rfl, s2, a2, w2, t2, R2, len2, k2, lk2, dn2, LV2, FR2⟩
            have l2 := R2.len
            exact ⟨_, rfl, rs2, lt, T, _, _, _, rfl, s2, nTH, a2, t2, R2, lk2, by omega, fun u h1 h2 => dn2 u h1 h2 (by simp), ⟨n + 1, LV2, FL.next k2 FR2 (fun u h1 h2 => dn2 u h1 h2 (by simp)), FR2⟩, len2⟩
      · have e : wv = [] := by
          cases wv with
          | nil => rfl
          | cons x r => exact absurd rfl he
        exact ⟨_, rfl, q H1 A0 rs sm nA R (fun t ht => hdone t ht (by rw [e]; simp)) LV eA1⟩
end
end NC
namespace NC
open PySem PySem.Spec PyProof.Rows L2
abbrev sChain : Stmt := topS 18
theorem scChain : FnScope ["walls", "bars", "one", "two", "ahead", "found", "side"] ["walls", "bars", "one", "two"] (defScope sChain) := ⟨rfl, rfl, rfl, by decide +kernel, rfl, by decide +kernel, by decide +kernel⟩
theorem first_none {l : List Nat} {bs : List (List Nat)} (h : firstBad l bs = none) : ∀ b ∈ bs, isBar l b = true := fun b hb => by
  obtain ⟨i, hi⟩ := List.getElem?_of_mem hb
  have hl := (List.getElem?_eq_some_iff.mp hi).1
  have q := List.find?_eq_none.mp h i (by simpa using hl)
  unfold badAt at q
  rw [List.getD_eq_getElem?_getD, hi] at q
  simp at q
  exact q.1
/-- each leads to the next -/
def Lk (adj : Nat → List Nat) : List Nat → Prop
  | [] => True
  | [_] => True
  | a :: b :: r => b ∈ adj a ∧ Lk adj (b :: r)
theorem Lk.get {adj : Nat → List Nat} : ∀ {l : List Nat}, Lk adj l → ∀ {i a b : Nat}, l[i]? = some a → l[i + 1]? = some b → b ∈ adj a
  | [], _, i, a, b, h1, _ => by simp at h1
  | [x], _, i, a, b, _, h2 => by simp at h2
  | x :: y :: r, h, 0, a, b, h1, h2 => by
    cases h1
    cases h2
    exact h.1
  | x :: y :: r, h, i + 1, a, b, h1, h2 => Lk.get (l := y :: r) h.2 (i := i) h1 h2
theorem dst_of {L : List Nat} {adj : Nat → List Nat} {one : Nat} {rs : List (Nat × Option Nat)} (R : RsOk L adj one rs) (lv : Lvl adj one rs) {s : Nat} (h : s ∈ kys rs) : ∃ n, Dst adj one n s := by
  obtain ⟨i, p, hi, _⟩ := ahK_some h
  rcases R.par i s p hi with ⟨rfl, rfl⟩ | ⟨c, j, q, rfl, _, _, _⟩
  · obtain ⟨r, e⟩ := R.hd
    rw [e] at hi
    cases hi
    exact ⟨0, .zero⟩
  · obtain ⟨m, _, b⟩ := lv i s c hi
    exact ⟨m + 1, b⟩
/-- all that chain asks for in the text -/
structure Txt8 (K : PySem.W.Frag) (mg : Str → Option Value) (tw : Tok) (fOther fSides fIsW fIsB fCW fCB fCS fSt fRe : Addr) (dOther dSides dIsW dIsB dCW dCB dCS dSt dRe : FuncData) (CH iH CB iB CS iS : Addr) (eH eB eS : FuncData) : Prop where
  B : BM mg
  mW : mg "WIDEST" = some (.int 12 tw)
  O : DF K mg "other" sOther ["side"] fOther dOther
  S : DF K mg "sides_of" sSides ["walls"] fSides dSides
  W : DF K mg "is_walls" sIsWalls ["walls"] fIsW dIsW
  I : DF K mg "is_bar" sIsBar ["walls", "bar"] fIsB dIsB
  cw : DF K mg "check_walls" sChkWalls ["walls"] fCW dCW
  cb : DF K mg "check_bars" sChkBars ["walls", "bars"] fCB dCB
  cs : DF K mg "check_side" sChkSide ["walls", "side"] fCS dCS
  st : DF K mg "straight_from" sStraight ["walls", "bars"] fSt dSt
  re : DF K mg "reached" sReached ["straight", "one"] fRe dRe
  he : HE K mg CH iH eH
  xb : XC K mg "BadBar" "BadBar.__init__" sBBinit "at" CB iB eB
  xs : XC0 K mg "BadSide" "BadSide.__init__" sBSinit CS iS eS
section
variable {P : Program} {w : World} {K : PySem.W.Frag} {mg : Str → Option Value} {base : Heap} {tw : Tok} {fOther fSides fIsW fIsB fCW fCB fCS fSt fRe : Addr} {dOther dSides dIsW dIsB dCW dCB dCS dSt dRe : FuncData} {CH iH CB iB CS iS : Addr} {eH eB eS : FuncData}
def spChain (K : PySem.W.Frag) (CS : Addr) : Sp := fun vs H Q E => ∃ l a bs z1 z2, vs = [.str (tx l), .ref a, .str z1, .str z2] ∧ GoodW l ∧ BarsOk bs ∧ bs.length ≤ 100 ∧ (SqL K H a ((bs.map tx).map V.str) ∨ SqT K H a ((bs.map tx).map V.str)) ∧ firstBad l bs = none ∧
  ((z1 ∉ (sds l).map sg ∨ z2 ∉ (sds l).map sg) → ∀ H' d, Same H H' → H d = none → H' d = some (.xd [("word", .str "badside")]) → E (.ref CS) (some d) H') ∧
  ∀ one two, z1 = sg one → z2 = sg two → one ∈ sds l → two ∈ sds l → (∀ H', Same H H' → (∀ n, ¬ Wk (adjOf bs) one n two) → Q .non H') ∧
    ∀ H' p path n, Same H H' → H p = none → H' p = some (.lst ((path.map sg).map V.str)) → Dst (adjOf bs) one n two → path.length = n + 1 → n ≤ 24 → path[0]? = some one → path[n]? = some two → Lk (adjOf bs) path → Q (.ref p) H'
set_option maxHeartbeats 1000000 in
theorem ok_chain {f : Addr} {fd : FuncData} {k : Nat} (F : Fun K "chain" "chain" sChain f fd) (T : Txt8 K mg tw fOther fSides fIsW fIsB fCW fCB fCS fSt fRe dOther dSides dIsW dIsB dCW dCB dCS dSt dRe CH iH CB iB CS iS eH eB eS) :
    FnOk P w K mg base (L2.CX P w) (k + 5) f fd ["walls", "bars", "one", "two"] (spChain K CS) := by
  have GW := ok_chkWalls (P := P) (w := w) (base := base) (k := k) T.B T.mW T.cw.F T.W
  have GB : FnOk P w K mg base (L2.CX P w) (k + 4) fCB dCB ["walls", "bars"] (spChkBars K CB) := ok_chkBars T.B T.cb.F T.I T.S T.he T.xb
  have GS : FnOk P w K mg base (L2.CX P w) (k + 4) fCS dCS ["walls", "side"] (spChkSide CS) := ok_chkSide T.B T.cs.F T.S T.he T.xs
  have GT : FnOk P w K mg base CX0 (k + 2) fSt dSt ["walls", "bars"] (spStraight K) := ok_straight T.B T.st.F T.S T.O
  have GR : FnOk P w K mg base CX0 (k + 2) fRe dRe ["straight", "one"] spReached := ok_reached T.re.F
  refine F.okX scChain (fun vs H Q E h => ?_) (fun cdv A outer s H vs Q E hr h => ?_)
  · obtain ⟨l, a, bs, z1, z2, rfl, _⟩ := h
    rfl
  · obtain ⟨l, a, bs, z1, z2, rfl, g, hbs, hbl, hS, fb, qe, q⟩ := h
    have r2 : Room (k + 2) _ := hr.mono (by omega)
    refine ⟨_, pss_cons (ps_expr (pe_call GW r2 rfl T.cw.g T.cw.F.kp T.cw.b .nil pass0 (pa_cons (pv 0) pa_nil)))
      (pss_cons (ps_expr (pe_call (E := E) GB hr rfl T.cb.g T.cb.F.kp T.cb.b .nil (passes_call (takes_of rfl rfl rfl rfl) (fun _ _ _ _ h => h)) (pa_cons (pv 0) (pa_cons (pv 1) pa_nil))))
      (pss_cons (ps_expr (pe_call (E := E) GS hr rfl T.cs.g T.cs.F.kp T.cs.b .nil (passes_call (takes_of rfl rfl rfl rfl) (fun _ _ _ _ h => h)) (pa_cons (pv 0) (pa_cons (pv 2) pa_nil))))
      (pss_cons (ps_expr (pe_call (E := E) GS hr rfl T.cs.g T.cs.F.kp T.cs.b .nil (passes_call (takes_of rfl rfl rfl rfl) (fun _ _ _ _ h => h)) (pa_cons (pv 0) (pa_cons (pv 3) pa_nil))))
      (pss_cons (ps_set (i := 4) scChain.nd rfl (.inl rfl) (pe_call GR r2 rfl T.re.g T.re.F.kp T.re.b .nil pass0 (pa_cons (pe_call GT r2 rfl T.st.g T.st.F.kp T.st.b .nil pass0 (pa_cons (pv 0) (pa_cons (pv 1) pa_nil))) (pa_cons (pv 2) pa_nil))))
      (pss_cons (ps_if (pt_cmp (pc_dnotin (hu_of hr) (pv 3) (pv 4))) (pss_one (ps_ret pe_non)) pss_nil)
      (pss_cons (ps_set (i := 5) scChain.nd rfl (.inl rfl) (pe_lst pa_nil))
      (pss_cons (ps_set (i := 6) scChain.nd rfl (.inl rfl) (pv 3))
      (pss_cons (ps_while (passes_of rfl) (pt_cmpR op_notN (pv 6) pe_non (nomark _))
        (pss_cons (ps_expr (pe_bm PySem.F.plainAttrs_list PySem.F.slot_list_append PySem.F.type_list_append mt_append (pv 5) (pa_cons (pv 6) pa_nil)))
        (pss_one (ps_set (i := 6) scChain.nd rfl (.inl rfl) (pe_dget (hu_of hr) (pv 4) (pv 6) (fun _ _ => rfl))))))
      (pss_one (ps_ret (pe_revL (pv 5)))))))))))), ?_⟩
    refine ⟨_, rfl, l, rfl, g, fun H1 s1 => ⟨_, rfl, _, rfl, l, a, bs, rfl, g, hbs, hbl, hS.imp (sm_l s1) (sm_t s1), ?_⟩⟩
    rw [fb]
    have hbar := first_none fb
    intro H2 s2
    have s12 := sm_trans s1 s2
    refine ⟨_, rfl, _, rfl, l, z1, rfl, g, fun m1 H3 s3 => ?_, fun n1 H' d sm nd e => qe (.inl n1) H' d (sm_trans s12 sm) (L2.Same.free s12 nd) e⟩
    have s13 := sm_trans s12 s3
    refine ⟨_, rfl, _, rfl, l, z2, rfl, g, fun m2 H4 s4 => ?_, fun n1 H' d sm nd e => qe (.inr n1) H' d (sm_trans s13 sm) (L2.Same.free s13 nd) e⟩
    have s14 := sm_trans s13 s4
    obtain ⟨one, h1, rfl⟩ := List.mem_map.mp m1
    obtain ⟨two, h2, rfl⟩ := List.mem_map.mp m2
    obtain ⟨qn, q⟩ := q one two rfl rfl h1 h2
    refine ⟨_, rfl, _, rfl, l, a, bs, rfl, g, hbar, hbl, hS.imp (sm_l s14) (sm_t s14), fun H5 d ad s5 nd S8 => ?_⟩
    refine ⟨_, rfl, sds l, d, ad, adjOf bs, one, rfl, S8.rd, h1, fun s hs c hc => adj_mem g hbar hc, sds_len g, fun H6 b rs s6 nb R cl lv eb => ?_⟩
    have s16 := sm_trans (sm_trans s14 s5) s6
    have h0k : one ∈ kys rs := by
      obtain ⟨r, e⟩ := R.hd
      rw [e]
      exact List.mem_cons_self ..
    refine ⟨_, rfl, _, rfl, b, _, rfl, DGet.k (k := Sum.inr (sg two)) eb, _, rfl, ite2 (fun hn => ?_) (fun hn => ?_)⟩
    · refine qn H6 s16 fun n wk => ?_
      obtain ⟨_, p, _, e⟩ := ahK_some (reach_in h0k cl wk)
      rw [e] at hn
      exact absurd hn Bool.false_ne_true
    have hk : two ∈ kys rs := by
      refine Classical.byContradiction fun z => hn ?_
      rw [ahK_no z]
      rfl
    obtain ⟨N, dN⟩ := dst_of R lv hk
    refine ⟨Nat.zero_le _, fun Fd nF => ?_⟩
    have nbF : b ≠ Fd := ne_of_none eb nF
    obtain ⟨i0, p0, hi0, _⟩ := ahK_some hk
    have l24 : rs.length ≤ 24 := Nat.le_trans R.len (sds_len g)
    refine ⟨_, rfl, fun m σ H' => ∃ (fs : List Nat) (p : Option Nat), σ = [some (.str (tx l)), some (.ref a), some (.str (sg one)), some (.str (sg two)), some (.ref b), some (.ref Fd), some (pV p)] ∧ Same H H' ∧ H' b = some (.dK (ahK rs)) ∧
      H' Fd = some (.lst ((fs.map sg).map V.str)) ∧ fs.length + m ≤ 25 ∧ ((p = none ∧ m = 0 ∧ Lk (adjOf bs) fs.reverse ∧ fs.reverse[0]? = some one ∧ fs[0]? = some two ∧ fs.length = N + 1) ∨
        ∃ (c i k : Nat) (z : Option Nat), p = some c ∧ rs[i]? = some (c, z) ∧ m = i + 1 ∧ Lk (adjOf bs) (c :: fs.reverse) ∧ Dst (adjOf bs) one k c ∧ k + fs.length = N ∧ ((fs ++ [c])[0]? = some two)), ?_, ?_⟩
    · refine ⟨i0 + 1, [], some two, rfl, sm_upd s16 nF, by rw [upd_ne nbF]; exact eb, upd_same, ?_, .inr ⟨two, i0, N, p0, rfl, hi0, rfl, trivial, dN, rfl, rfl⟩⟩
      have := (List.getElem?_eq_some_iff.mp hi0).1
      show 0 + (i0 + 1) ≤ 25
      omega
    · rintro m σ H7 ⟨fs, p, rfl, s7, b7, f7, hm, hp⟩
      rcases hp with ⟨rfl, rfl, k1, k2, k3, k4⟩ | ⟨c, i, k, z, rfl, hi, rfl, k1, k2, k3, k4⟩
      · refine ⟨_, rfl, rfl, _, rfl, iteF ?_⟩
        refine ⟨_, rfl, Fd, _, rfl, SqL.of f7, fun p np => q _ p fs.reverse N (sm_upd s7 np) (L2.Same.free s7 np) ?_ dN (by rw [List.length_reverse]; exact k4) (by omega) k2 ?_ k1⟩
        · rw [upd_same, List.map_reverse, List.map_reverse]
        · rw [List.getElem?_reverse (by omega), show fs.length - 1 - N = 0 by omega]
          exact k3
      · refine ⟨_, rfl, rfl, _, rfl, iteT ⟨_, fun σ' H' h => h, ?_⟩⟩
        have il := (List.getElem?_eq_some_iff.mp hi).1
        have hck : c ∈ kys rs := List.mem_map.mpr ⟨_, List.mem_of_getElem? hi, rfl⟩
        obtain ⟨i2, z2, hi2, ev⟩ := ahK_some hck
        have ei : i = i2 := by
          refine (List.getElem?_inj (by unfold kys; rw [List.length_map]; exact il) R.nd).mp ?_
          unfold kys
          rw [List.getElem?_map, List.getElem?_map, hi, hi2]
          rfl
        subst ei
        have ez : z = z2 := by
          rw [hi] at hi2
          exact (Prod.mk.inj (Option.some.inj hi2)).2
        subst ez
        have eb8 : (upd H7 Fd (.lst ((fs.map sg).map V.str ++ [.str (sg c)]))) b = some (.dK (ahK rs)) := by rw [upd_ne nbF]; exact b7
        have nFH : H Fd = none := L2.Same.free s16 nF
        refine ⟨_, rfl, .inl ⟨rfl, _, SqL.of f7⟩, _, rfl, Fd, _, _, rfl, rfl, f7, by rw [List.length_map, List.length_map, sizeLine_eq]; omega, ?_⟩
        refine ⟨_, rfl, _, rfl, b, _, rfl, by rw [← ev]; exact DGet.k (k := Sum.inr (sg c)) eb8, ?_⟩
        have eF : (upd H7 Fd (.lst ((fs.map sg).map V.str ++ [.str (sg c)]))) Fd = some (.lst (((fs ++ [c]).map sg).map V.str)) := by rw [upd_same, List.map_append, List.map_append]; rfl
        have er : (fs ++ [c]).reverse = c :: fs.reverse := by simp
        rcases R.par i c z hi with ⟨rfl, rfl⟩ | ⟨c2, j, z3, rfl, hj, hrj, hadj⟩
        · have ec : c = one := by
            obtain ⟨r, e⟩ := R.hd
            rw [e] at hi
            cases hi
            rfl
          subst ec
          have k0 : k = 0 := k2.uniq .zero
          refine ⟨0, by omega, fs ++ [c], none, rfl, sm_over s7 nFH, eb8, eF, ?_, .inl ⟨rfl, rfl, by rw [er]; exact k1, by rw [er]; rfl, k4, ?_⟩⟩
          · rw [List.length_append]
            show fs.length + 1 + 0 ≤ 25
            omega
          · rw [List.length_append]
            show fs.length + 1 = N + 1
            omega
        · obtain ⟨m2, d2, d3⟩ := lv i c c2 hi
          have km := k2.uniq d3
          refine ⟨j + 1, by omega, fs ++ [c], some c2, rfl, sm_over s7 nFH, eb8, eF, ?_, .inr ⟨c2, j, m2, z3, rfl, hrj, rfl, by rw [er]; exact ⟨hadj, k1⟩, d2, ?_, ?_⟩⟩
          · rw [List.length_append]
            show fs.length + 1 + (j + 1) ≤ 25
            omega
          · rw [List.length_append]
            show m2 + (fs.length + 1) = N
            omega
          · rw [List.append_assoc]
            cases fs with
            | nil => exact k4
            | cons x r => exact k4
end
end NC
namespace NC
open PySem PySem.Spec PyProof.Rows L2
abbrev sStart : Stmt := topS 20
abbrev sDraw : Stmt := topS 21
abbrev sOf : Stmt := topS 22
abbrev sLetters : Stmt := topS 23
theorem scStart : FnScope ["_law_script", "_law_seed", "_law_cell"] ["_law_script"] (defScope sStart) := ⟨rfl, rfl, rfl, by decide +kernel, rfl, by decide +kernel, by decide +kernel⟩
theorem scDraw : FnScope ["_law_d", "_law_many", "_law_cell", "_law_digit", "_law_mix"] ["_law_d", "_law_many"] (defScope sDraw) := ⟨rfl, rfl, rfl, by decide +kernel, rfl, by decide +kernel, by decide +kernel⟩
theorem scOf : FnScope ["_law_d", "_law_some"] ["_law_d", "_law_some"] (defScope sOf) := ⟨rfl, rfl, rfl, by decide +kernel, rfl, by decide +kernel, by decide +kernel⟩
theorem scLetters : FnScope [] [] (defScope sLetters) := ⟨rfl, rfl, rfl, by decide +kernel, rfl, by decide +kernel, by decide +kernel⟩
/-- all but x stays -/
def SmX (x : Addr) (H H' : Hp) : Prop := ∀ b o, b ≠ x → H b = some o → H' b = some o
def Dr (H : Hp) (d : Addr) : Prop := ∃ (c : Addr) (ns : List Int) (i a b e : Int), H d = some (.lst [.ref c, .int i, .int a, .int b, .int e]) ∧ H c = some (.lst (ns.map V.int)) ∧ 0 ≤ i
theorem SmX.refl (x : Addr) (H : Hp) : SmX x H H := fun _ _ _ h => h
theorem SmX.trans {x : Addr} {H H1 H2 : Hp} (a : SmX x H H1) (b : SmX x H1 H2) : SmX x H H2 := fun c o n h => b c o n (a c o n h)
theorem SmX.of {x : Addr} {H H1 : Hp} (a : Same H H1) : SmX x H H1 := fun c o _ h => a c o h
theorem SmX.upd {x : Addr} {H : Hp} {o : HO} : SmX x H (L2.upd H x o) := fun c z n h => by rw [upd_ne n]; exact h
/-- all but d's list stays, and the first of d's list too -/
def HeadC (H : Hp) (d c : Addr) : Prop := ∃ r, H d = some (.lst (.ref c :: r))
def SmD (d : Addr) (H H' : Hp) : Prop := SmX d H H' ∧ ∀ c, HeadC H d c → HeadC H' d c
theorem SmD.refl (x : Addr) (H : Hp) : SmD x H H := ⟨SmX.refl x H, fun _ h => h⟩
theorem SmD.trans {x : Addr} {H H1 H2 : Hp} (a : SmD x H H1) (b : SmD x H1 H2) : SmD x H H2 := ⟨a.1.trans b.1, fun c h => b.2 c (a.2 c h)⟩
theorem SmD.of {x : Addr} {H H1 : Hp} (a : Same H H1) : SmD x H H1 := ⟨SmX.of a, fun _ ⟨r, h⟩ => ⟨r, a _ _ h⟩⟩
theorem SmD.upd {x c : Addr} {H : Hp} {r r' : List V} (h : H x = some (.lst (.ref c :: r))) : SmD x H (L2.upd H x (.lst (.ref c :: r'))) := ⟨SmX.upd, fun c2 ⟨r2, h2⟩ => by
  rw [h] at h2
  have e : c = c2 := by
    injection h2 with h3
    injection h3 with h3
    injection h3 with h3 _
    injection h3
  exact ⟨r', by rw [← e]; exact upd_same⟩⟩
theorem dr_ne {H : Hp} {c d : Addr} {ns : List Int} {x : Addr} {i a b e : Int} (h1 : H d = some (.lst [.ref x, .int i, .int a, .int b, .int e])) (h2 : H c = some (.lst (ns.map V.int))) : c ≠ d := ne_of h2 h1 fun z => by
  have z2 : ns.map V.int = [.ref x, .int i, .int a, .int b, .int e] := by injection z
  cases ns with
  | nil => cases z2
  | cons n r =>
    rw [List.map_cons] at z2
    injection z2 with z3 _
    cases z3
theorem Dr.same {H H' : Hp} {d : Addr} (h : Dr H d) (e : Same H H') : Dr H' d := by
  obtain ⟨c, ns, i, a, b, f, h1, h2, h3⟩ := h
  exact ⟨c, ns, i, a, b, f, e _ _ h1, e _ _ h2, h3⟩
section
variable {P : Program} {w : World} {K : PySem.W.Frag} {mg : Str → Option Value} {base : Heap}
def spDraw : Sp := fun vs H Q _ => ∃ d n, vs = [.ref d, .int n] ∧ Dr H d ∧ 1 ≤ n ∧ n ≤ 1000 ∧ ∀ H' v, SmD d H H' → Dr H' d → 0 ≤ v → v < n → Q (.int v) H'
set_option maxHeartbeats 1000000 in
theorem ok_draw {f : Addr} {fd : FuncData} {k : Nat} (B : BM mg) (F : Fun K "_law_draw" "_law_draw" sDraw f fd) : FnOk P w K mg base CX0 (k + 1) f fd ["_law_d", "_law_many"] spDraw := by
  refine F.ok scDraw (fun vs H Q E h => ?_) (fun cdv A outer s H vs Q E hr h => ?_)
  · obtain ⟨d, n, rfl, _⟩ := h
    rfl
  · obtain ⟨d, n, rfl, D, hn1, hn2, q⟩ := h
    refine ⟨_, C8.pss_cut (ps_if (PW.pt (pw_and (pt_cmpR op_lt (pe_ix ix_list (pv 0) pe_int (fun _ _ => rfl)) (pv 1) (nomark _))
        (pw_and1 (pt_cmpR op_lt (pe_ix ix_list (pv 0) pe_int (fun _ _ => rfl)) (pe_callB call_len_seq (by rfl) B.len PySem.boot_len (pa_cons (pe_ix ix_list (pv 0) pe_int (fun _ _ => rfl)) pa_nil)) (nomark _)))))
      (pss_cons (ps_set (i := 2) scDraw.nd rfl (.inl rfl) (pe_ix ix_list (pe_ix ix_list (pv 0) pe_int (fun _ _ => rfl)) (pe_ix ix_list (pv 0) pe_int (fun _ _ => rfl)) (fun _ _ => rfl)))
      (pss_cons (ps_asg (pe_op op_add (pe_ix ix_list (pv 0) pe_int (fun _ _ => rfl)) pe_int) (pg_sub (pv 0) pe_int set_list))
      (pss_cons (ps_asg (pe_ifExp (pt_cmpR op_ge (pv 2) (pe_op op_pow pe_int pe_int) (nomark _)) (pv 2) pe_int) (pg_sub (pv 0) pe_int set_list))
      (pss_one (ps_asg (pe_op op_mod (pe_op op_add (pe_op op_add (pe_op op_mul (pe_ix ix_list (pv 0) pe_int (fun _ _ => rfl)) pe_int) (pe_op op_mod (pv 2) pe_int)) pe_int) pe_int) (pg_sub (pv 0) pe_int set_list)))))) pss_nil)
      (pss_cons (ps_if (pt_cmpR op_ge (pe_ix ix_list (pv 0) pe_int (fun _ _ => rfl)) (pv 1) (nomark _))
        (pss_cons (ps_set (i := 3) scDraw.nd rfl (.inl rfl) (pe_op op_mod (pe_ix ix_list (pv 0) pe_int (fun _ _ => rfl)) (pv 1)))
        (pss_cons (ps_asg (pe_op op_fdiv (pe_ix ix_list (pv 0) pe_int (fun _ _ => rfl)) (pv 1)) (pg_sub (pv 0) pe_int set_list))
        (pss_one (ps_ret (pv 3))))) pss_nil)
      (pss_cons (ps_asg (pe_op op_add (pe_ix ix_list (pv 0) pe_int (fun _ _ => rfl)) pe_int) (pg_sub (pv 0) pe_int set_list))
      (pss_cons (ps_set (i := 4) scDraw.nd rfl (.inl rfl) (pe_op op_add (pe_op op_add (pe_op op_mul (pe_ix ix_list (pv 0) pe_int (fun _ _ => rfl)) pe_int) (pe_op op_mul (pe_ix ix_list (pv 0) pe_int (fun _ _ => rfl)) pe_int)) pe_int))
      (pss_cons (ps_set (i := 4) scDraw.nd rfl (.inl rfl) (pe_op op_add (pe_op op_mul (pv 4) (pe_op op_add (pe_op op_mod (pv 4) pe_int) pe_int)) (pe_op op_mul (pe_ix ix_list (pv 0) pe_int (fun _ _ => rfl)) pe_int)))
      (pss_cons (ps_asg (pe_op op_mod (pv 4) pe_int) (pg_sub (pv 0) pe_int set_list))
      (pss_one (ps_ret (pe_op op_mod (pe_op op_add (pe_op op_fdiv (pe_ix ix_list (pv 0) pe_int (fun _ _ => rfl)) pe_int) (pe_op op_mul (pe_op op_mod (pe_ix ix_list (pv 0) pe_int (fun _ _ => rfl)) pe_int) pe_int)) (pv 1))))))))), ?_⟩
    obtain ⟨c, ns, i, a, b, e, hd, hc, hi⟩ := D
    have nc := dr_ne hd hc
    refine ⟨fun σ H' => ∃ y2 y3 y4, σ = [some (.ref d), some (.int n), y2, y3, y4] ∧ SmD d H H' ∧ Dr H' d, ?_, ?_⟩
    · refine ⟨_, rfl, d, _, 2, .int a, rfl, rfl, SqL.of hd, rfl, _, rfl, _, _, rfl, rfl, _, rfl, ite2 (fun t1 => ?_) (fun t1 => ?_)⟩
      · refine ⟨_, rfl, d, _, 1, .int i, rfl, rfl, SqL.of hd, rfl, _, rfl, d, _, 0, .ref c, rfl, rfl, SqL.of hd, rfl, c, _, rfl, .inl (SqL.of hc), _, _, rfl, rfl, _, rfl, ite2 (fun t2 => ?_) (fun t2 => ?_)⟩
        · have hil : i < (ns.length : Int) := by
            have := of_decide_eq_true t2
            rw [List.length_map] at this
            exact this
          obtain ⟨j, rfl⟩ := Int.eq_ofNat_of_zero_le hi
          have hjl : j < ns.length := by omega
          have hat : (ns.map V.int)[j]? = some (.int ns[j]) := by rw [List.getElem?_map, List.getElem?_eq_getElem hjl]; rfl
          refine ⟨_, rfl, d, _, 0, .ref c, rfl, rfl, SqL.of hd, rfl, _, rfl, d, _, 1, .int j, rfl, rfl, SqL.of hd, rfl, c, _, j, .int ns[j], rfl, rfl, SqL.of hc, atI_nat hat, ?_⟩
          generalize ns[j] = z
          refine ⟨_, rfl, d, _, 1, .int j, rfl, rfl, SqL.of hd, rfl, _, _, rfl, rfl, _, rfl, d, _, 1, 1, rfl, rfl, hd, rfl, ?_⟩
          have fin : ∀ (H2 : Hp) (z2 : Int), SmD d H H2 → H2 d = some (.lst [.ref c, .int ((j : Int) + 1), .int z2, .int b, .int e]) →
              ∃ H3, SmD d H H3 ∧ Dr H3 d ∧ H3 = upd H2 d (.lst ([.ref c, .int ((j : Int) + 1), .int z2, .int b, .int e].set 3 (.int ((b * 69621 + z % 998244353 + 1) % 2147483647)))) := fun H2 z2 s2 e2 =>
            ⟨_, s2.trans (SmD.upd e2), ⟨c, ns, _, _, _, _, upd_same, by rw [upd_ne nc]; exact s2.1 _ _ nc hc, by omega⟩, rfl⟩
          refine ⟨_, rfl, _, _, rfl, rfl, ⟨by decide, by decide, by decide⟩, _, _, rfl, rfl, _, rfl, ite2 (fun t3 => ?_) (fun t3 => ?_)⟩
          · refine ⟨_, rfl, _, rfl, d, _, 2, 2, rfl, rfl, upd_same, rfl, ?_⟩
            rw [L2.upd_upd]
            obtain ⟨H3, a1, a2, a3⟩ := fin (upd H d (.lst [.ref c, .int ((j : Int) + 1), .int z, .int b, .int e])) z (SmD.upd hd) upd_same
            refine ⟨_, rfl, d, _, 3, .int b, rfl, rfl, SqL.of upd_same, rfl, _, _, rfl, rfl, .inr ⟨by decide, by decide⟩, _, rfl, _, _, rfl, rfl, (by show (0 : Int) < 998244353; decide), _, _, rfl, rfl, _, _, rfl, rfl, _, _, rfl, rfl, (by show (0 : Int) < 2147483647; decide), _, rfl, d, _, 3, 3, rfl, rfl, upd_same, rfl, ?_⟩
            exact ⟨_, _, _, rfl, by rw [a3] at a1; exact a1, by rw [a3] at a2; exact a2⟩
          · refine ⟨_, rfl, d, _, 2, 2, rfl, rfl, upd_same, rfl, ?_⟩
            rw [L2.upd_upd]
            obtain ⟨H3, a1, a2, a3⟩ := fin (upd H d (.lst [.ref c, .int ((j : Int) + 1), .int 0, .int b, .int e])) 0 (SmD.upd hd) upd_same
            refine ⟨_, rfl, d, _, 3, .int b, rfl, rfl, SqL.of upd_same, rfl, _, _, rfl, rfl, .inr ⟨by decide, by decide⟩, _, rfl, _, _, rfl, rfl, (by show (0 : Int) < 998244353; decide), _, _, rfl, rfl, _, _, rfl, rfl, _, _, rfl, rfl, (by show (0 : Int) < 2147483647; decide), _, rfl, d, _, 3, 3, rfl, rfl, upd_same, rfl, ?_⟩
            exact ⟨_, _, _, rfl, by rw [a3] at a1; exact a1, by rw [a3] at a2; exact a2⟩
        · exact ⟨_, _, _, rfl, SmD.refl _ _, c, ns, i, a, b, e, hd, hc, hi⟩
      · exact iteF ⟨_, _, _, rfl, SmD.refl _ _, c, ns, i, a, b, e, hd, hc, hi⟩
    · rintro σ H1 ⟨y2, y3, y4, rfl, s1, c1, ns1, i1, a1, b1, e1, hd1, hc1, hi1⟩
      have nc1 := dr_ne hd1 hc1
      refine ⟨_, rfl, d, _, 2, .int a1, rfl, rfl, SqL.of hd1, rfl, _, rfl, _, _, rfl, rfl, _, rfl, ite2 (fun t1 => ?_) (fun t1 => ?_)⟩
      · refine ⟨_, rfl, d, _, 2, .int a1, rfl, rfl, SqL.of hd1, rfl, _, rfl, _, _, rfl, rfl, (by show 0 < n; omega), ?_⟩
        refine ⟨_, rfl, d, _, 2, .int a1, rfl, rfl, SqL.of hd1, rfl, _, rfl, _, _, rfl, rfl, ⟨by omega, by omega⟩, _, rfl, d, _, 2, 2, rfl, rfl, hd1, rfl, ?_⟩
        refine ⟨_, rfl, q _ _ (s1.trans (SmD.upd hd1)) ⟨c1, ns1, _, _, _, _, upd_same, by rw [upd_ne nc1]; exact hc1, hi1⟩ (Int.emod_nonneg _ (by omega)) (Int.emod_lt_of_pos _ (by omega))⟩
      · refine ⟨_, rfl, d, _, 4, .int e1, rfl, rfl, SqL.of hd1, rfl, _, _, rfl, rfl, _, rfl, d, _, 4, 4, rfl, rfl, hd1, rfl, ?_⟩
        have hd2 : (upd H1 d (.lst ([.ref c1, .int i1, .int a1, .int b1, .int e1].set 4 (.int (e1 + 1))))) d = some (.lst [.ref c1, .int i1, .int a1, .int b1, .int (e1 + 1)]) := upd_same
        refine ⟨_, rfl, d, _, 3, .int b1, rfl, rfl, SqL.of hd2, rfl, _, _, rfl, rfl, .inr ⟨by decide, by decide⟩, _, rfl, d, _, 4, .int (e1 + 1), rfl, rfl, SqL.of hd2, rfl, _, _, rfl, rfl, .inr ⟨by decide, by decide⟩, _, _, rfl, rfl, _, _, rfl, rfl, ?_⟩
        have m1 : 0 ≤ (b1 * 16807 + (e1 + 1) * 40692 + 7) % 65521 := Int.emod_nonneg _ (by decide)
        have m2 : (b1 * 16807 + (e1 + 1) * 40692 + 7) % 65521 < 65521 := Int.emod_lt_of_pos _ (by decide)
        refine ⟨_, rfl, _, rfl, _, _, rfl, rfl, (by show (0 : Int) < 65521; decide), _, _, rfl, rfl, _, _, rfl, rfl, .inr ⟨by show -(2 ^ 64) < (b1 * 16807 + (e1 + 1) * 40692 + 7) % 65521 + 3; omega, by show (b1 * 16807 + (e1 + 1) * 40692 + 7) % 65521 + 3 < 2 ^ 64; omega⟩, _, rfl, d, _, 4, .int (e1 + 1), rfl, rfl, SqL.of hd2, rfl, _, _, rfl, rfl, .inr ⟨by decide, by decide⟩, _, _, rfl, rfl, ?_⟩
        refine ⟨_, rfl, _, _, rfl, rfl, (by show (0 : Int) < 2147483629; decide), _, rfl, d, _, 3, 3, rfl, rfl, hd2, rfl, ?_⟩
        have hd3 : (upd (upd H1 d (.lst ([.ref c1, .int i1, .int a1, .int b1, .int e1].set 4 (.int (e1 + 1))))) d (.lst ([.ref c1, .int i1, .int a1, .int b1, .int (e1 + 1)].set 3 (.int (((b1 * 16807 + (e1 + 1) * 40692 + 7) * ((b1 * 16807 + (e1 + 1) * 40692 + 7) % 65521 + 3) + (e1 + 1) * 9176) % 2147483629))))) d = some (.lst [.ref c1, .int i1, .int a1, .int (((b1 * 16807 + (e1 + 1) * 40692 + 7) * ((b1 * 16807 + (e1 + 1) * 40692 + 7) % 65521 + 3) + (e1 + 1) * 9176) % 2147483629), .int (e1 + 1)]) := upd_same
        refine ⟨_, rfl, d, _, 3, .int (((b1 * 16807 + (e1 + 1) * 40692 + 7) * ((b1 * 16807 + (e1 + 1) * 40692 + 7) % 65521 + 3) + (e1 + 1) * 9176) % 2147483629), rfl, rfl, SqL.of hd3, rfl, _, _, rfl, rfl, ⟨by decide, by decide⟩, _, rfl, d, _, 3, .int (((b1 * 16807 + (e1 + 1) * 40692 + 7) * ((b1 * 16807 + (e1 + 1) * 40692 + 7) % 65521 + 3) + (e1 + 1) * 9176) % 2147483629), rfl, rfl, SqL.of hd3, rfl, _, _, rfl, rfl, (by show (0 : Int) < 8191; decide), _, _, rfl, rfl, .inr ⟨by decide, by decide⟩, _, _, rfl, rfl, _, rfl, _, _, rfl, rfl, (by show 0 < n; omega), ?_⟩
        refine q _ _ ((s1.trans (SmD.upd hd1)).trans (SmD.upd hd2)) ⟨c1, ns1, _, _, _, _, hd3, by rw [upd_ne nc1, upd_ne nc1]; exact hc1, hi1⟩ (Int.emod_nonneg _ (by omega)) (Int.emod_lt_of_pos _ (by omega))
end
end NC
namespace NC
open PySem PySem.Spec PyProof.Rows L2
def ltrs : List Nat := (List.range 26).map (· + 97)
theorem ltrs_eq : Str.ofString "abcdefghijklmnopqrstuvwxyz" = tx ltrs := by decide +kernel
theorem ltrs_at {i c : Nat} (h : ltrs[i]? = some c) : c = 97 + i ∧ i < 26 := by
  unfold ltrs at h
  rw [List.getElem?_map] at h
  obtain ⟨j, hj, e⟩ := Option.map_eq_some_iff.mp h
  obtain ⟨h1, h2⟩ := List.getElem?_eq_some_iff.mp hj
  rw [List.getElem_range] at h2
  rw [List.length_range] at h1
  omega
theorem smx_l {K : PySem.W.Frag} {d : Addr} {H H' : Hp} {a : Addr} {xs : List V} (e : SmX d H H') (n : a ≠ d) (h : SqL K H a xs) : SqL K H' a xs := by
  rcases h with (h | ⟨o, h⟩) | h
  · exact .inl (.inl (e _ _ n h))
  · exact .inl (.inr ⟨o, e _ _ n h⟩)
  · exact .inr h
theorem len_v {n : Nat} : V.int ((n : Nat) : Int) = V.int (n : Int) := rfl
section
variable {P : Program} {w : World} {K : PySem.W.Frag} {mg : Str → Option Value} {base : Heap}
/-! ### _law_start -/
def spStart (K : PySem.W.Frag) : Sp := fun vs H Q _ => ∃ (a : Addr) (ns : List Int), vs = [.ref a] ∧ SqL K H a (ns.map V.int) ∧ ∀ H' d, Same H H' → H d = none → Dr H' d → Q (.ref d) H'
theorem ok_start {f : Addr} {fd : FuncData} {k : Nat} (B : BM mg) (F : Fun K "_law_start" "_law_start" sStart f fd) : FnOk P w K mg base CX0 (k + 1) f fd ["_law_script"] (spStart K) := by
  refine F.ok scStart (fun vs H Q E h => ?_) (fun cdv A outer s H vs Q E hr h => ?_)
  · obtain ⟨a, ns, rfl, _⟩ := h
    rfl
  · obtain ⟨a, ns, rfl, hS, q⟩ := h
    refine ⟨_, pss_cons (ps_set (i := 1) scStart.nd rfl (.inl rfl) pe_int)
      (pss_cons (ps_for PassesOwn.never rfl (pi_list (pe_slice sl_list (pv 0) po_none (po_some pe_int))) (pg_name (i := 2) scStart.nd rfl (.inl rfl))
        (pss_one (ps_set (i := 1) scStart.nd rfl (.inl rfl) (pe_op op_mod (pe_op op_add (pe_op op_add (pe_op op_mul (pv 1) pe_int) (pe_op op_mod (pv 2) pe_int)) pe_int) pe_int))))
      (pss_one (ps_ret (pe_lst (pa_cons (pe_callTy call_list_of (by rfl) B.list (by decide +kernel) (pa_cons (pe_slice sl_list (pv 0) po_none (po_some pe_int)) pa_nil)) (pa_cons pe_int (pa_cons pe_int (pa_cons (pv 1) (pa_cons pe_int pa_nil))))))))), ?_⟩
    refine ⟨_, rfl, 63, rfl, a, _, rfl, hS, fun p np => ⟨p, rfl, ⟨_, SqL.of upd_same⟩, ?_⟩⟩
    have ec : cutV (ns.map V.int) none (some 63) = (ns.take 63).map V.int := by
      unfold cutV
      rw [HT.sIx_none, show HT.sIx (ns.map V.int).length (ns.map V.int).length (some 63) = min 63 (ns.map V.int).length from HT.sIx_nat _ _ 63, List.drop_zero, Nat.sub_zero, List.map_take, List.length_map]
      rcases Nat.le_total 63 ns.length with h | h
      · rw [Nat.min_eq_left h]
      · rw [Nat.min_eq_right h, List.take_of_length_le (by rw [List.length_map]; exact Nat.le_refl _), List.take_of_length_le (by rw [List.length_map]; exact h)]
    rw [ec]
    have wk := walk_list (K := K) (a := p) (xs := (ns.take 63).map V.int)
    refine for_it wk (fun i σ H' => ∃ (z : Int) (y2 : Option V), σ = [some (.ref a), some (.int z), y2] ∧ Same H H' ∧ H' p = some (.lst ((ns.take 63).map V.int))) ⟨_, _, rfl, same_upd np, upd_same⟩
      (fun i σ H' _ h => by obtain ⟨_, _, _, _, h⟩ := h; exact SqL.of h) ?_ ?_
    · rintro i x σ H1 H2 hi ⟨z, y2, rfl, sm, ep⟩ ⟨rfl, hx⟩
      rw [List.getElem?_map] at hx
      obtain ⟨c, hc, rfl⟩ := Option.map_eq_some_iff.mp hx
      exact ⟨_, rfl, _, _, rfl, rfl, .inr ⟨by decide, by decide⟩, _, rfl, _, _, rfl, rfl, (by show (0 : Int) < 1000003; decide), _, _, rfl, rfl, _, _, rfl, rfl, _, _, rfl, rfl, (by show (0 : Int) < 2147483647; decide), _, _, rfl, sm, ep⟩
    · rintro σ H1 ⟨z, y2, rfl, sm, ep⟩
      refine ⟨_, rfl, 63, rfl, a, _, rfl, sm_l sm hS, fun p2 np2 => ⟨p2, _, rfl, .inl (SqL.of upd_same), fun p3 np3 => ?_⟩⟩
      rw [ec] at np3 ⊢
      have s3 := sm_upd (o := .lst ((ns.take 63).map V.int)) (sm_upd (o := .lst ((ns.take 63).map V.int)) sm np2) np3
      refine ⟨_, rfl, by show 5 ≤ sizeLine; decide, fun d nd => ?_⟩
      have n3 : p3 ≠ d := ne_of_none upd_same nd
      exact q _ d (sm_upd s3 nd) (L2.Same.free s3 nd) ⟨p3, ns.take 63, 0, 0, _, 0, upd_same, by rw [upd_ne n3, upd_same], Int.le_refl _⟩
/-! ### _law_of -/
def spOf (K : PySem.W.Frag) : Sp := fun vs H Q _ => ∃ d x, vs = [.ref d, x] ∧ Dr H d ∧
  ((∃ a xs, x = .ref a ∧ a ≠ d ∧ SqL K H a xs ∧ 1 ≤ xs.length ∧ xs.length ≤ 1000 ∧ ∀ H' v (i : Nat), SmD d H H' → Dr H' d → xs[i]? = some v → Q v H') ∨
    ∃ l : List Nat, x = .str (tx l) ∧ 1 ≤ l.length ∧ l.length ≤ 1000 ∧ ∀ H' c, SmD d H H' → Dr H' d → c ∈ l → Q (.str (sg c)) H')
theorem ok_of {f fD : Addr} {fd fdD : FuncData} {k : Nat} (B : BM mg) (F : Fun K "_law_of" "_law_of" sOf f fd) (D : DF K mg "_law_draw" sDraw ["_law_d", "_law_many"] fD fdD) : FnOk P w K mg base CX0 (k + 2) f fd ["_law_d", "_law_some"] (spOf K) := by
  have GD : FnOk P w K mg base CX0 (k + 1) fD fdD ["_law_d", "_law_many"] spDraw := ok_draw B D.F
  refine F.ok scOf (fun vs H Q E h => ?_) (fun cdv A outer s H vs Q E hr h => ?_)
  · obtain ⟨d, x, rfl, _⟩ := h
    rfl
  · obtain ⟨d, x, rfl, hD, h⟩ := h
    refine ⟨_, pss_one (ps_ret (pe_ix (IxR.or ix_list ix_str) (pv 1) (pe_call GD hr rfl D.g D.F.kp D.b .nil pass0 (pa_cons (pv 0) (pa_cons (pe_callB (CallR.or call_len_seq call_len_str) (by rfl) B.len PySem.boot_len (pa_cons (pv 1) pa_nil)) pa_nil))) (fun _ _ => rfl))), ?_⟩
    rcases h with ⟨a, xs, rfl, nd, hS, h1, h2, q⟩ | ⟨l, rfl, h1, h2, q⟩
    · refine ⟨_, rfl, _, rfl, _, rfl, .inl ⟨a, xs, rfl, .inl hS, d, _, rfl, hD, by omega, by omega, fun H1 v s1 D1 v0 v1 => ?_⟩⟩
      obtain ⟨j, rfl⟩ := Int.eq_ofNat_of_zero_le v0
      have hj : j < xs.length := by omega
      exact .inl ⟨a, xs, j, xs[j], rfl, rfl, smx_l s1.1 nd hS, atI_nat (List.getElem?_eq_getElem hj), q H1 _ j s1 D1 (List.getElem?_eq_getElem hj)⟩
    · have hz : (tx l).length ≤ sizeLine := by rw [tx_len, sizeLine_eq]; omega
      refine ⟨_, rfl, _, rfl, _, rfl, .inr ⟨tx l, rfl, hz, d, _, rfl, hD, by rw [tx_len]; omega, by rw [tx_len]; omega, fun H1 v s1 D1 v0 v1 => ?_⟩⟩
      obtain ⟨j, rfl⟩ := Int.eq_ofNat_of_zero_le v0
      have hj : j < l.length := by rw [tx_len] at v1; omega
      exact .inr ⟨tx l, j, l[j], rfl, rfl, hz, by rw [tx_list]; exact atI_nat (List.getElem?_eq_getElem hj), q H1 _ s1 D1 (List.getElem_mem hj)⟩
/-! ### _law_letters -/
theorem ok_letters {f : Addr} {fd : FuncData} {k : Nat} (F : Fun K "_law_letters" "_law_letters" sLetters f fd) : FnOk P w K mg base CX0 (k + 1) f fd [] (fun vs H Q _ => vs = [] ∧ Q (.str (tx ltrs)) H) := by
  refine F.ok scLetters (fun vs H Q E h => ?_) (fun cdv A outer s H vs Q E hr h => ?_)
  · obtain ⟨rfl, _⟩ := h
    rfl
  · obtain ⟨rfl, q⟩ := h
    refine ⟨_, pss_one (ps_ret pe_str), ?_⟩
    show Q (.str (Str.ofString "abcdefghijklmnopqrstuvwxyz")) H
    rw [ltrs_eq]
    exact q
end
end NC
namespace NC
open PySem PySem.Spec PyProof.Rows L2
abbrev sShuts : Stmt := topS 24
abbrev sPairs : Stmt := topS 26
theorem scShuts : FnScope ["_law_d", "_law_most", "_law_found", "_law_skip", "_law_sign"] ["_law_d", "_law_most"] (defScope sShuts) := ⟨rfl, rfl, rfl, by decide +kernel, rfl, by decide +kernel, by decide +kernel⟩
theorem cut_from (l : List Nat) (j : Nat) : cutS (tx l) (some ((j : Nat) : Int)) none = tx (l.drop j) := by
  unfold cutS
  rw [HT.sIx_none, HT.sIx_nat, tx_list, tx_len]
  show Str.mk _ = Str.mk _
  congr 1
  rcases Nat.le_total j l.length with h | h
  · rw [Nat.min_eq_left h, List.take_of_length_le (by rw [List.length_drop]; exact Nat.le_refl _)]
  · rw [Nat.min_eq_right h, List.drop_of_length_le (Nat.le_refl _), List.drop_of_length_le h]
    simp
theorem strK : (Str.ofString "k") = tx [107] := by decide +kernel
theorem str0 : (Str.ofString "") = tx [] := by decide +kernel
theorem good_k : GoodW [107] := ⟨by decide, by decide, fun c h => by simp at h; omega, by simp⟩
section
variable {P : Program} {w : World} {K : PySem.W.Frag} {mg : Str → Option Value} {base : Heap}
def spShuts : Sp := fun vs H Q _ => ∃ (d : Addr) (n : Int), vs = [.ref d, .int n] ∧ Dr H d ∧ 1 ≤ n ∧ n ≤ 12 ∧ ∀ H' l, SmD d H H' → Dr H' d → GoodW l → Q (.str (tx l)) H'
set_option maxHeartbeats 1000000 in
theorem ok_shuts {f fD fL : Addr} {fd fdD fdL : FuncData} {k : Nat} (B : BM mg) (F : Fun K "_law_shuts" "_law_shuts" sShuts f fd) (D : DF K mg "_law_draw" sDraw ["_law_d", "_law_many"] fD fdD) (Lt : DF K mg "_law_letters" sLetters [] fL fdL) :
    FnOk P w K mg base CX0 (k + 2) f fd ["_law_d", "_law_most"] spShuts := by
  have GD : FnOk P w K mg base CX0 (k + 1) fD fdD ["_law_d", "_law_many"] spDraw := ok_draw B D.F
  have GL := ok_letters (P := P) (w := w) (mg := mg) (base := base) (k := k) Lt.F
  refine F.ok scShuts (fun vs H Q E h => ?_) (fun cdv A outer s H vs Q E hr h => ?_)
  · obtain ⟨d, n, rfl, _⟩ := h
    rfl
  · obtain ⟨d, n, rfl, hD, hn1, hn2, q⟩ := h
    refine ⟨_, pss_cons (ps_set (i := 2) scShuts.nd rfl (.inl rfl) pe_str)
      (pss_cons (ps_set (i := 3) scShuts.nd rfl (.inl rfl) (pe_ix ix_list (pe_lst (pa_cons pe_int (pa_cons pe_int (pa_cons pe_int pa_nil)))) (pe_call GD hr rfl D.g D.F.kp D.b .nil pass0 (pa_cons (pv 0) (pa_cons pe_int pa_nil))) (fun _ _ => rfl)))
      (pss_cons (ps_for PassesOwn.never rfl (pi_str (pe_slice sl_str (pe_call0 GL hr rfl Lt.g Lt.F.kp Lt.b .nil pass0) (po_some (pe_call GD hr rfl D.g D.F.kp D.b .nil pass0 (pa_cons (pv 0) (pa_cons pe_int pa_nil)))) po_none)) (pg_name (i := 4) scShuts.nd rfl (.inl rfl))
        (pss_one (ps_if (PW.pt (pw_and (pt_cmpR op_lt (pe_callB call_len_str (by rfl) B.len PySem.boot_len (pa_cons (pv 2) pa_nil)) (pv 1) (nomark _))
            (pw_and1 (PW.pt (pw_or (pt_cmpR op_eq (pv 3) pe_int (nomark _)) (pw_or1 (pt_cmpR op_eq (pe_call GD hr rfl D.g D.F.kp D.b .nil pass0 (pa_cons (pv 0) (pa_cons (pv 3) pa_nil))) pe_int (nomark _))))))))
          (pss_one (ps_set (i := 2) scShuts.nd rfl (.inl rfl) (pe_op op_add_str (pv 2) (pv 4)))) pss_nil)))
      (pss_one (ps_ret (pe_ifExp (pt_cmpR op_ne (pv 2) pe_str (nomark _)) (pv 2) pe_str))))), ?_⟩
    refine ⟨by show 3 ≤ sizeLine; decide, fun p np => ?_⟩
    have ndp : d ≠ p := by
      obtain ⟨c, ns, i, a, b, e, hd, _⟩ := hD
      exact ne_of_none hd np
    have D1 : Dr (upd H p (.lst [.int 0, .int 2, .int 26])) d := hD.same (same_upd np)
    refine ⟨_, rfl, d, 3, rfl, D1, by decide, by decide, fun H1 v s1 D1' v0 v1 => ?_⟩
    have s01 : SmD d H H1 := (SmD.of (same_upd np)).trans s1
    have ep : H1 p = some (.lst [.int 0, .int 2, .int 26]) := s1.1 _ _ (Ne.symm ndp) upd_same
    obtain ⟨sk, hsk, hat⟩ : ∃ sk : Int, (sk = 0 ∨ sk = 2 ∨ sk = 26) ∧ atI [V.int 0, .int 2, .int 26] v = some (.int sk) := by
      have hv : v = 0 ∨ v = 1 ∨ v = 2 := by omega
      rcases hv with rfl | rfl | rfl
      · exact ⟨0, .inl rfl, rfl⟩
      · exact ⟨2, .inr (.inl rfl), rfl⟩
      · exact ⟨26, .inr (.inr rfl), rfl⟩
    refine ⟨p, _, v, .int sk, rfl, rfl, SqL.of ep, hat, ?_⟩
    refine ⟨rfl, _, rfl, d, 9, rfl, D1', by decide, by decide, fun H2 u s2 D2 u0 u1 => ?_⟩
    obtain ⟨j, rfl⟩ := Int.eq_ofNat_of_zero_le u0
    refine ⟨_, rfl, _, rfl, by rw [tx_len, sizeLine_eq]; decide, ?_⟩
    rw [cut_from]
    refine ⟨_, rfl, ?_⟩
    have lz : (tx (ltrs.drop j)).cps.size = (ltrs.drop j).length := tx_len _
    refine for_it walk_str (fun i σ H' => ∃ (l : List Nat) (y4 : Option V), σ = [some (.ref d), some (.int n), some (.str (tx l)), some (.int sk), y4] ∧ SmD d H H' ∧ Dr H' d ∧ l.Pairwise (· < ·) ∧ (∀ c ∈ l, 97 ≤ c ∧ c < 97 + (j + i) ∧ c ≤ 122) ∧ (l.length : Int) ≤ n)
      ⟨[], _, by rw [← str0]; rfl, s01.trans s2, D2, List.Pairwise.nil, (fun c h => absurd h (by simp)), by show (0 : Int) ≤ n; omega⟩ (fun _ _ _ _ _ => trivial) ?_ ?_
    · rintro i x σ H3 H4 hi ⟨l, y4, rfl, s3, D3, pw, hb, hln⟩ ⟨rfl, c, hc, rfl⟩
      have hcc : c = 97 + (j + i) ∧ j + i < 26 := by
        rw [← Array.getElem?_toList, tx_list, List.getElem?_drop] at hc
        exact ltrs_at hc
      have hlz : (tx l).length ≤ sizeLine := by rw [tx_len, sizeLine_eq]; omega
      have stay : ∀ (y : Option V) (H5 : Hp), SmD d H H5 → Dr H5 d → ∃ (l1 : List Nat) (y4 : Option V), [some (V.ref d), some (.int n), some (.str (tx l)), some (.int sk), y] = [some (.ref d), some (.int n), some (.str (tx l1)), some (.int sk), y4] ∧ SmD d H H5 ∧ Dr H5 d ∧ l1.Pairwise (· < ·) ∧
          (∀ c ∈ l1, 97 ≤ c ∧ c < 97 + (j + (i + 1)) ∧ c ≤ 122) ∧ (l1.length : Int) ≤ n := fun y H5 a1 a2 => ⟨l, y, rfl, a1, a2, pw, fun e he => by have := hb e he; omega, hln⟩
      have grow : ∀ (H5 : Hp), SmD d H H5 → Dr H5 d → (l.length : Int) < n → (tx l).length + (sg c).length ≤ sizeLine ∧ ∃ (l1 : List Nat) (y4 : Option V), [some (V.ref d), some (.int n), some (.str (tx l ++ sg c)), some (.int sk), some (.str (sg c))] = [some (.ref d), some (.int n), some (.str (tx l1)), some (.int sk), y4] ∧ SmD d H H5 ∧ Dr H5 d ∧ l1.Pairwise (· < ·) ∧
          (∀ c ∈ l1, 97 ≤ c ∧ c < 97 + (j + (i + 1)) ∧ c ≤ 122) ∧ (l1.length : Int) ≤ n := fun H5 a1 a2 hlt => by
        refine ⟨by rw [tx_len, sizeLine_eq]; show l.length + 1 ≤ _; omega, l ++ [c], _, by rw [sg_tx, tx_app], a1, a2, ?_, fun e he => ?_, by rw [List.length_append]; show ((l.length + 1 : Nat) : Int) ≤ n; omega⟩
        · refine List.pairwise_append.mpr ⟨pw, by simp, fun a ha b hb2 => ?_⟩
          have := hb a ha
          have := List.mem_singleton.mp hb2
          omega
        · rcases List.mem_append.mp he with z | z
          · have := hb e z
            omega
          · have := List.mem_singleton.mp z
            omega
      refine ⟨_, rfl, _, rfl, hlz, _, rfl, _, _, rfl, rfl, _, rfl, ite2 (fun t1 => ?_) (fun t1 => ?_)⟩
      · have hlt : (l.length : Int) < n := by
          have := of_decide_eq_true t1
          rw [tx_len] at this
          exact this
        refine ⟨_, rfl, rfl, _, rfl, ite2 (fun t2 => ?_) (fun t2 => ?_)⟩
        · obtain ⟨g1, g2⟩ := grow H4 s3 D3 hlt
          exact iteT ⟨_, rfl, _, rfl, _, _, rfl, rfl, g1, g2⟩
        · have hsk2 : 1 ≤ sk ∧ sk ≤ 1000 := by
            have : sk ≠ 0 := fun z => t2 (by rw [z]; exact decide_eq_true rfl)
            omega
          refine ⟨_, rfl, _, rfl, d, sk, rfl, D3, hsk2.1, hsk2.2, fun H5 v5 s5 D5 _ _ => ⟨rfl, _, rfl, ite2 (fun t3 => ?_) (fun t3 => ?_)⟩⟩
          · obtain ⟨g1, g2⟩ := grow H5 (s3.trans s5) D5 hlt
            exact ⟨_, rfl, _, rfl, _, _, rfl, rfl, g1, g2⟩
          · exact stay _ H5 (s3.trans s5) D5
      · exact iteF (stay _ H4 s3 D3)
    · rintro σ H3 ⟨l, y4, rfl, s3, D3, pw, hb, hln⟩
      refine ⟨_, rfl, rfl, _, rfl, ite2 (fun t1 => ?_) (fun t1 => ?_)⟩
      · have hl0 : l ≠ [] := fun z => by
          rw [z, ← str0] at t1
          exact absurd t1 (by decide +kernel)
        refine ⟨_, rfl, q H3 l s3 D3 ⟨List.length_pos_iff.mpr hl0, by omega, fun c hc => ?_, pw⟩⟩
        have := hb c hc
        omega
      · show Q (.str (Str.ofString "k")) H3
        rw [strK]
        exact q H3 [107] s3 D3 good_k
end
end NC
namespace NC
open PySem PySem.Spec PyProof.Rows L2
theorem scPairs : FnScope ["_law_shuts_it", "_law_found", "_law_one_it", "_law_two_it", "_law_first", "_law_second"] ["_law_shuts_it"] (defScope sPairs) := ⟨rfl, rfl, rfl, by decide +kernel, rfl, by decide +kernel, by decide +kernel⟩
def sec (f y : Nat) : List (List Nat) := [y, upc y].map fun s => [f, s]
def pr2 (x y : Nat) : List (List Nat) := [x, upc x].flatMap fun f => sec f y
def prI (l : List Nat) (i m : Nat) : List (List Nat) := (List.range m).flatMap fun j => pr2 (l.getD i 0) (l.getD (i + 1 + j) 0)
def prs (l : List Nat) (m : Nat) : List (List Nat) := (List.range m).flatMap fun i => prI l i (l.length - (i + 1))
theorem prI_len (l : List Nat) (i m : Nat) : (prI l i m).length = 4 * m := by
  induction m with
  | zero => rfl
  | succ m ih =>
    unfold prI at ih ⊢
    rw [List.range_succ, List.flatMap_append, List.length_append, ih]
    show _ + ([m].flatMap _).length = _
    simp [pr2, sec]
    omega
theorem prs_len (l : List Nat) : ∀ m, (prs l m).length ≤ 4 * l.length * m
  | 0 => by simp [prs]
  | m + 1 => by
    have ih := prs_len l m
    unfold prs at ih ⊢
    rw [List.range_succ, List.flatMap_append, List.length_append]
    have e : ([m].flatMap fun i => prI l i (l.length - (i + 1))).length = 4 * (l.length - (m + 1)) := by simp [prI_len]
    rw [e, Nat.mul_succ]
    have : 4 * (l.length - (m + 1)) ≤ 4 * l.length := Nat.mul_le_mul_left _ (Nat.sub_le _ _)
    omega
theorem lwc_of {x f : Nat} (h : 97 ≤ x ∧ x ≤ 122) (hf : f ∈ [x, upc x]) : lwc f = x := by
  rcases List.mem_cons.mp hf with e | e
  · rw [e]; unfold lwc; rw [if_neg (by omega)]
  · rw [List.mem_singleton.mp e, upc_small h]; unfold lwc; rw [if_pos (by omega)]; omega
theorem sds_of {l : List Nat} (g : GoodW l) {x f : Nat} (hx : x ∈ l) (hf : f ∈ [x, upc x]) : f ∈ sds l := by
  rcases List.mem_cons.mp hf with e | e
  · rw [e]; exact sds_of_small hx
  · rw [List.mem_singleton.mp e, upc_small (g.sm x hx)]; exact sds_of_great g hx
theorem of_sds {l : List Nat} (g : GoodW l) {f : Nat} (h : f ∈ sds l) : lwc f ∈ l ∧ f ∈ [lwc f, upc (lwc f)] := by
  rcases sds_shape g h with ⟨a, b, hm⟩ | ⟨a, b, hm⟩
  · have e : lwc f = f := by unfold lwc; rw [if_neg (by omega)]
    rw [e]
    exact ⟨hm, List.mem_cons_self ..⟩
  · have e : lwc f = f + 32 := by unfold lwc; rw [if_pos ⟨a, b⟩]
    rw [e, upc_small (by omega), show f + 32 - 32 = f by omega]
    exact ⟨hm, by simp⟩
theorem getD_of {l : List Nat} {i : Nat} (h : i < l.length) : l.getD i 0 = l[i] := by simp [List.getD, h]
theorem prs_mem {l : List Nat} (g : GoodW l) (b : List Nat) : b ∈ prs l l.length ↔ isBar l b = true := by
  constructor
  · intro h
    obtain ⟨i, hi, h⟩ := List.mem_flatMap.mp h
    obtain ⟨j, hj, h⟩ := List.mem_flatMap.mp h
    obtain ⟨f, hf, h⟩ := List.mem_flatMap.mp h
    obtain ⟨s, hs, rfl⟩ := List.mem_map.mp h
    have hi := List.mem_range.mp hi
    have hj := List.mem_range.mp hj
    have hk : i + 1 + j < l.length := by omega
    rw [getD_of hi] at hf
    rw [getD_of hk] at hs
    have m1 : l[i] ∈ l := List.getElem_mem hi
    have m2 : l[i + 1 + j] ∈ l := List.getElem_mem hk
    have lt : l[i] < l[i + 1 + j] := List.pairwise_iff_getElem.mp g.rise i (i + 1 + j) hi hk (by omega)
    show (decide (f ∈ sds l) && (decide (s ∈ sds l) && decide (lwc f < lwc s))) = true
    rw [decide_eq_true (sds_of g m1 hf), decide_eq_true (sds_of g m2 hs), lwc_of (g.sm _ m1) hf, lwc_of (g.sm _ m2) hs, decide_eq_true lt]
    rfl
  · intro h
    obtain ⟨f, s, rfl, hf, hs, lt⟩ := bar_two h
    obtain ⟨m1, f1⟩ := of_sds g hf
    obtain ⟨m2, s1⟩ := of_sds g hs
    obtain ⟨i, hi, ei⟩ := List.getElem_of_mem m1
    obtain ⟨k, hk, ek⟩ := List.getElem_of_mem m2
    have hik : i < k := by
      rcases Nat.lt_trichotomy i k with z | z | z
      · exact z
      · subst z
        rw [← ei, ← ek] at lt
        omega
      · have := List.pairwise_iff_getElem.mp g.rise k i hk hi z
        omega
    refine List.mem_flatMap.mpr ⟨i, List.mem_range.mpr hi, List.mem_flatMap.mpr ⟨k - (i + 1), List.mem_range.mpr (by omega), List.mem_flatMap.mpr ⟨f, ?_, List.mem_map.mpr ⟨s, ?_, rfl⟩⟩⟩⟩
    · rw [getD_of hi, ei]
      exact f1
    · rw [show i + 1 + (k - (i + 1)) = k by omega, getD_of hk, ek]
      exact s1
section
variable {P : Program} {w : World} {K : PySem.W.Frag} {mg : Str → Option Value} {base : Heap}
def spPairs : Sp := fun vs H Q _ => ∃ l, vs = [.str (tx l)] ∧ GoodW l ∧ ∀ H' p, Same H H' → H p = none → H' p = some (.lst (((prs l l.length).map tx).map V.str)) → Q (.ref p) H'
set_option maxHeartbeats 1000000 in
theorem ok_pairs {f : Addr} {fd : FuncData} {k : Nat} (B : BM mg) (F : Fun K "_law_pairs" "_law_pairs" sPairs f fd) : FnOk P w K mg base CX0 (k + 1) f fd ["_law_shuts_it"] spPairs := by
  refine F.ok scPairs (fun vs H Q E h => ?_) (fun cdv A outer s H vs Q E hr h => ?_)
  · obtain ⟨l, rfl, _⟩ := h
    rfl
  · obtain ⟨l, rfl, g, q⟩ := h
    have hz : (tx l).length ≤ sizeLine := by rw [tx_len, sizeLine_eq]; have := g.hi; omega
    refine ⟨_, pss_cons (ps_set (i := 1) scPairs.nd rfl (.inl rfl) (pe_lst pa_nil))
      (pss_cons (ps_for PassesOwn.never rfl (pi_range1 (by rfl) B.range (pa_cons (pe_callB call_len_str (by rfl) B.len PySem.boot_len (pa_cons (pv 0) pa_nil)) pa_nil)) (pg_name (i := 2) scPairs.nd rfl (.inl rfl))
        (pss_one (ps_for PassesOwn.never rfl (pi_range2 (by rfl) B.range (pa_cons (pe_op op_add (pv 2) pe_int) (pa_cons (pe_callB call_len_str (by rfl) B.len PySem.boot_len (pa_cons (pv 0) pa_nil)) pa_nil))) (pg_name (i := 3) scPairs.nd rfl (.inl rfl))
          (pss_one (ps_for PassesOwn.never rfl (pi_tup (pe_tup (pa_cons (pe_ix ix_str (pv 0) (pv 2) (fun _ _ => rfl)) (pa_cons (pe_upper (pe_ix ix_str (pv 0) (pv 2) (fun _ _ => rfl))) pa_nil)))) (pg_name (i := 4) scPairs.nd rfl (.inr rfl))
            (pss_one (ps_expr (pe_bm PySem.F.plainAttrs_list PySem.F.slot_list_extend PySem.F.type_list_extend mt_extend (pv 1) (pa_cons
              (pe_lc (own := [("_law_second", 5)]) (g := gName 5) (tt := tYes) rfl scPairs.nd (pi_tup (pe_tup (pa_cons (pe_ix ix_str (pv 0) (pv 3) (fun _ _ => rfl)) (pa_cons (pe_upper (pe_ix ix_str (pv 0) (pv 3) (fun _ _ => rfl))) pa_nil))))
                (blkOk_by (N := ["_law_shuts_it", "_law_found", "_law_one_it", "_law_two_it", "_law_first", "_law_second"]) (sc := defScope sPairs) (by decide +kernel)) (fun _ _ _ _ _ => pg_name (i := 5) scPairs.nd rfl (Or.inl rfl)) (fun _ _ _ _ _ => pts_nil) (fun _ _ _ _ _ => pe_op op_add_str (pv 4) (pv 5)))
              pa_nil)))))))))
      (pss_one (ps_ret (pv 1)))), ?_⟩
    refine ⟨Nat.zero_le _, fun p np => ?_⟩
    refine ⟨_, rfl, _, rfl, hz, _, rfl, by rw [tx_len]; omega, by rw [tx_len]; have := g.hi; omega, ?_⟩
    have hi12 := g.hi
    rw [show (((tx l).length : Nat) : Int).toNat = l.length by rw [tx_len]; exact Int.toNat_natCast _]
    refine for_it walk_range (fun i σ H' => ∃ y2 y3 y4 y5, σ = [some (.str (tx l)), some (.ref p), y2, y3, y4, y5] ∧ Same H H' ∧ H' p = some (.lst (((prs l i).map tx).map V.str))) ⟨_, _, _, _, rfl, same_upd np, upd_same⟩ (fun _ _ _ _ _ => trivial) ?_ ?_
    · rintro i v σ H1 H2 hi ⟨y2, y3, y4, y5, rfl, s1, e1⟩ ⟨rfl, rfl⟩
      refine ⟨_, rfl, _, _, rfl, rfl, _, rfl, _, rfl, hz, _, _, rfl, ⟨by omega, by omega, by rw [tx_len]; omega, by rw [tx_len]; omega⟩, ?_⟩
      rw [show ((((tx l).length : Nat) : Int) - (0 + (i : Int) + 1)).toNat = l.length - (i + 1) by rw [tx_len]; omega]
      have hpl := prs_len l i
      refine for_it walk_range (fun j σ H' => ∃ y3 y4 y5, σ = [some (.str (tx l)), some (.ref p), some (.int (0 + (i : Int))), y3, y4, y5] ∧ Same H H' ∧ H' p = some (.lst (((prs l i ++ prI l i j).map tx).map V.str))) ⟨_, _, _, rfl, s1, by rw [e1]; simp [prI]⟩ (fun _ _ _ _ _ => trivial) ?_ ?_
      · rintro j v σ H3 H4 hj ⟨y3, y4, y5, rfl, s3, e3⟩ ⟨rfl, rfl⟩
        have hk : i + 1 + j < l.length := by omega
        have mx : l[i] ∈ l := List.getElem_mem hi
        have my : l[i + 1 + j] ∈ l := List.getElem_mem hk
        have ax : atI (tx l).cps.toList (0 + (i : Int)) = some l[i] := by
          rw [tx_list, show (0 + (i : Int)) = ((i : Nat) : Int) by omega]
          exact atI_nat (List.getElem?_eq_getElem hi)
        have ay : atI (tx l).cps.toList (0 + (i : Int) + 1 + (j : Int)) = some l[i + 1 + j] := by
          rw [tx_list, show (0 + (i : Int) + 1 + (j : Int)) = ((i + 1 + j : Nat) : Int) by omega]
          exact atI_nat (List.getElem?_eq_getElem hk)
        generalize hX : l[i] = x at mx ax
        generalize hY : l[i + 1 + j] = y at my ay
        have ux : Txt.upper (⟨#[x]⟩ : Str) = sg (upc x) := upper_tx (l := [x]) (fun c hc => by simp at hc; rw [hc]; exact g.asc x mx)
        have uy : Txt.upper (⟨#[y]⟩ : Str) = sg (upc y) := upper_tx (l := [y]) (fun c hc => by simp at hc; rw [hc]; exact g.asc y my)
        refine ⟨_, rfl, _, rfl, _, _, x, rfl, rfl, hz, ax, _, rfl, _, rfl, _, _, x, rfl, rfl, hz, ax, ⟨_, rfl⟩, _, rfl, rfl, by show 1 ≤ 5592405; decide, by show 2 ≤ sizeLine; decide, fun T nT => ⟨T, rfl, ⟨_, SqT.of upd_same⟩, ?_⟩⟩
        rw [ux]
        have npT : p ≠ T := ne_of_none e3 nT
        refine for_it (walk_tup (K := K) (a := T) (xs := [x, upc x].map fun e => V.str (sg e))) (fun t σ H' => ∃ y4 y5, σ = [some (.str (tx l)), some (.ref p), some (.int (0 + (i : Int))), some (.int (0 + (i : Int) + 1 + (j : Int))), y4, y5] ∧ Same H H' ∧
          SqT K H' T ([x, upc x].map fun e => V.str (sg e)) ∧ H' p = some (.lst (((prs l i ++ prI l i j ++ ([x, upc x].take t).flatMap fun f => sec f y).map tx).map V.str)))
          ⟨_, _, rfl, sm_upd s3 nT, SqT.of upd_same, by rw [upd_ne npT, e3]; simp⟩ (fun t σ H' _ h => by obtain ⟨_, _, _, _, h, _⟩ := h; exact h) ?_ ?_
        · rintro t v σ H5 H6 ht ⟨y4, y5, rfl, s5, hT5, e5⟩ ⟨rfl, hv⟩
          rw [List.getElem?_map] at hv
          obtain ⟨f, hf, rfl⟩ := Option.map_eq_some_iff.mp hv
          refine ⟨_, rfl, .inl ⟨rfl, _, SqL.of e5⟩, _, rfl, _, rfl, _, _, y, rfl, rfl, hz, ay, _, rfl, _, rfl, _, _, y, rfl, rfl, hz, ay, ⟨_, rfl⟩, _, rfl, rfl, by show 1 ≤ 5592405; decide, by show 2 ≤ sizeLine; decide, fun T2 nT2 => ⟨T2, rfl, ⟨_, SqT.of upd_same⟩, fun D nD => ?_⟩⟩
          rw [uy] at nD ⊢
          have eT2 : (upd H6 T2 (.tup [.str ⟨#[y]⟩, .str (sg (upc y))])) T2 = some (.tup ([y, upc y].map fun e => V.str (sg e))) := upd_same
          have s6 : Same H6 (upd H6 T2 (.tup [.str ⟨#[y]⟩, .str (sg (upc y))])) := same_upd nT2
          generalize (upd H6 T2 (.tup [.str ⟨#[y]⟩, .str (sg (upc y))])) = H7 at nD eT2 s6 ⊢
          refine lc_it (walk_tup (K := K) (a := T2) (xs := [y, upc y].map fun e => V.str (sg e))) (fun u H' => Same H7 H' ∧ H' D = some (.lst (((([y, upc y].take u).map fun s => [f, s]).map tx).map V.str))) ⟨same_upd nD, upd_same⟩ (fun u H' _ h => SqT.of (h.1 _ _ eT2)) ?_ ?_
          · rintro u v H8 H9 hu ⟨s8, e8⟩ ⟨rfl, hv⟩
            rw [List.getElem?_map] at hv
            obtain ⟨c, hc, rfl⟩ := Option.map_eq_some_iff.mp hv
            refine ⟨rfl, yes_i ⟨_, rfl, _, rfl, _, _, rfl, rfl, by show 1 + 1 ≤ sizeLine; decide, _, e8, ?_, sm_over s8 nD, ?_⟩⟩
            · rw [List.length_map, List.length_map, List.length_map, List.length_take, sizeLine_eq]
              have hu2 : u < 2 := hu
              omega
            · rw [upd_same, List.take_add_one, hc, List.map_append, List.map_append, List.map_append, sg_tx, sg_tx, tx_app]
              rfl
          · rintro H8 ⟨s8, e8⟩
            have e58 : H8 p = _ := s8 _ _ (s6 _ _ e5)
            have hsum : (prs l i ++ prI l i j ++ ([x, upc x].take t).flatMap fun f => sec f y).length ≤ 700 := by
              rw [List.length_append, List.length_append, prI_len]
              have h2 : (([x, upc x].take t).flatMap fun f => sec f y).length ≤ 4 := by
                have ht2 : t < 2 := ht
                have : t = 0 ∨ t = 1 := by omega
                rcases this with rfl | rfl
                · simp
                · simp [sec]
              have h3 : 4 * l.length * i ≤ 4 * 12 * 12 := Nat.mul_le_mul (Nat.mul_le_mul_left _ hi12) (by omega)
              omega
            refine ⟨p, D, _, _, rfl, rfl, e58, e8, ?_, ?_⟩
            · rw [List.length_map, List.length_map, List.length_map, List.length_map, List.length_map, sizeLine_eq]
              show _ + 2 ≤ _
              omega
            · refine ⟨_, _, rfl, sm_over (sm_trans (sm_trans s5 s6) s8) np, ?_, ?_⟩
              · have hT8 := sm_t s8 (sm_t s6 hT5)
                have ntp : ∀ o, H8 T = some o → (∀ z, o ≠ .lst z) → T ≠ p := fun o ho hz2 => ne_of ho e58 (hz2 _)
                rcases hT8 with (z | ⟨o, z⟩) | z
                · exact .inl (.inl (by rw [upd_ne (ntp _ z fun q e => by cases e)]; exact z))
                · exact .inl (.inr ⟨o, by rw [upd_ne (ntp _ z fun q e => by cases e)]; exact z⟩)
                · exact .inr z
              · rw [upd_same, List.take_add_one, hf, List.flatMap_append, ← List.map_append, ← List.map_append, List.append_assoc (prs l i ++ prI l i j)]
                simp [sec]
        · rintro σ H5 ⟨y4, y5, rfl, s5, _, e5⟩
          refine ⟨_, _, _, rfl, s5, ?_⟩
          rw [e5]
          have ej : prI l i (j + 1) = prI l i j ++ pr2 x y := by
            unfold prI
            rw [List.range_succ, List.flatMap_append]
            simp only [List.flatMap_cons, List.flatMap_nil, List.append_nil]
            rw [getD_of hi, getD_of hk, hX, hY]
          rw [ej, List.append_assoc]
          rfl
      · rintro σ H3 ⟨y3, y4, y5, rfl, s3, e3⟩
        refine ⟨_, _, _, _, rfl, s3, ?_⟩
        rw [e3]
        have ei : prs l (i + 1) = prs l i ++ prI l i (l.length - (i + 1)) := by
          unfold prs
          rw [List.range_succ, List.flatMap_append]
          simp
        rw [ei]
    · rintro σ H1 ⟨y2, y3, y4, y5, rfl, s1, e1⟩
      exact ⟨_, rfl, q H1 p s1 np e1⟩
end
end NC
namespace NC
open PySem PySem.Spec PyProof.Rows L2
abbrev sWord : Stmt := topS 27
abbrev sRef : Stmt := topS 28
abbrev nWord : List Str := ["_law_ask", "_law_found", "e"]
theorem scWord : FnScope nWord ["_law_ask"] (defScope sWord) := ⟨rfl, rfl, rfl, by decide +kernel, rfl, by decide +kernel, by decide +kernel⟩
theorem scRef : FnScope ["_law_ask", "_law_due"] ["_law_ask", "_law_due"] (defScope sRef) := ⟨rfl, rfl, rfl, by decide +kernel, rfl, by decide +kernel, by decide +kernel⟩
/-- e.f in a suite, the class told by the reading -/
def tXfG (K : PySem.W.Frag) (a : Addr) (cls : Value) (d : Option Addr) (f : Str) (te : TE) : TE := fun σ H Q => te σ H fun x H1 => x = .ref a ∧ ∃ (C dd : Addr) (fs : List (Str × V)) (v : V), cls = .ref C ∧ XfC K C ∧ PySem.W.findIn K (.ref C) f = some none ∧ d = some dd ∧ H1 dd = some (.xd fs) ∧ fs.lookup f = some v ∧ Q v H1
theorem pe_xfG {X : Cx} {a : Addr} {oe : Obj} {cls : Value} {d : Option Addr} {pn : List (Addr × Obj)} {e : Expr} {i : Nat} {pos : Pos} {n : Str} (hz : Zc cls d oe) (hf : ∃ vs, oe.data = .fields vs) (at_ : PE (X.suite a ((a, oe) :: pn)) e (tVar i))
    (hb : attributeBase e n X.env (eval e X.env) = eval e X.env := by rfl) : PE (X.suite a ((a, oe) :: pn)) (.Attribute e n pos) (tXfG X.K a cls d n (tVar i)) :=
  ⟨fun ps s σ H Q I ⟨v, sv, ev, C, dd, fs, u, ec, T, no, ed, ea, lu, q⟩ => (pe_xf (C := C) T no hz hf at_ hb).run ps s σ H Q I ⟨v, sv, ev, ec, dd, fs, u, ed, ea, lu, q⟩⟩
theorem takes_len {X : Cx} {W : WX} (t : Takes X W) : Takes X (fun c d σ H => σ.length = X.N.length → W c d σ H) := fun u s' ⟨a, B, sI, pins, σ, H, cls, d, e, I, nb, up, sky, na, os, ag, w⟩ =>
  t u s' ⟨a, B, sI, pins, σ, H, cls, d, e, I, nb, up, sky, na, os, ag, w I.len⟩
def FldAt (K : PySem.W.Frag) (cls : Value) (d : Option Addr) (f : Str) (H : Hp) (q : V → Prop) : Prop := ∃ (C dd : Addr) (fs : List (Str × V)) (v : V), cls = .ref C ∧ XfC K C ∧ PySem.W.findIn K (.ref C) f = some none ∧ d = some dd ∧ H dd = some (.xd fs) ∧ fs.lookup f = some v ∧ q v
/-- the three families -/
abbrev fam (CH CM CN : Addr) : List Value := [.ref CH, .ref CM, .ref CN]
def EchW (K : PySem.W.Frag) (CH CM CN : Addr) (Q : VK) : XK := fun cls d H' => PySem.W.exmAny K cls (fam CH CM CN) = some true ∧ FldAt K cls d "word" H' fun v => ∀ T, H' T = none → Q (.ref T) (upd H' T (.tup [.non, v]))
/-- what _law_word makes of what it asks -/
def spWord (K : PySem.W.Frag) (CH CM CN : Addr) : Addr → (XK → Hp → VK → Prop) → List V → Hp → VK → Prop := fun f tl vs H Q => vs = [.ref f] ∧ tl (EchW K CH CM CN Q) H fun x H1 => 2 ≤ sizeLine ∧ ∀ T, H1 T = none → ∃ v, some (some (V.ref T)) = some (some v) ∧ Q v (upd H1 T (.tup [x, .str ""]))
section
variable {P : Program} {w : World} {K : PySem.W.Frag} {mg : Str → Option Value} {base : Heap}
set_option maxHeartbeats 1000000 in
theorem ok_word {g CH CM CN : Addr} {fd : FuncData} {k : Nat} (F : Fun K "_law_word" "_law_word" sWord g fd) (hH : mg "HallError" = some (.ref CH)) (hM : mg "Missing" = some (.ref CM)) (hN : mg "NothingLeft" = some (.ref CN)) : Uses P w K mg base k (k + 2) g fd ["_law_ask"] (spWord K CH CM CN) := by
  refine uses_of F scWord fun cdv A out s H vs Q f J tl hr a jH h => ?_
  obtain ⟨rfl, h⟩ := h
  refine ⟨_, pss_cons (ps_try_tup (X := (cxOf C8.CX0 P w K mg base nWord "_law_word" (defScope sWord) g cdv A out s H C8.E0).nox)
      (tb := fun W D σ G => ∃ Ech : XK, (∀ cls d σ' H', Ech cls d H' → σ'.length = 3 → W cls d σ' H') ∧ tAsg (tTup (tCons (fun σZ HZ R => σZ[0]? = some (some (.ref f)) ∧ J HZ ∧ tl Ech HZ R) (tCons (tC (.str "")) tNil))) (gName 1) D σ G)
      (i := 2) (c1 := .ref CH) (c2 := .ref CM) (c3 := .ref CN) (ts := fun a cls d => tAsg (tTup (tCons (tC .non) (tCons (tXfG K a cls d "word" (tVar 2)) tNil))) (gName 1))
      rfl rfl scWord.nd LamX.takes0 (fun W pn xe tk => ?_) rfl rfl ⟨rfl, by decide, .inl hH⟩ ⟨rfl, by decide, .inl hM⟩ ⟨rfl, by decide, .inl hN⟩
      (fun a oe cls d pn hz hf => pss_one (ps_set (i := 1) scWord.nd rfl (.inl rfl) (pe_tup (pa_cons pe_non (pa_cons (pe_xfG hz hf (pv 2)) pa_nil))))))
    (pss_one (ps_ret (pv 1))), ?_⟩
  · refine ⟨fun pins s' σ G D I h' => ?_⟩
    obtain ⟨Ech, hW, h3⟩ := h'
    exact (pss_one (ps_set (X := (cxOf C8.CX0 P w K mg base nWord "_law_word" (defScope sWord) g cdv A out s H C8.E0).nox.tr pn xe) (i := 1) scWord.nd rfl (.inl rfl)
      (pe_tup (pa_cons (pe_thunk (E := Ech) a rfl (passes_call (takes_len tk) hW) hr (pv 0)) (pa_cons pe_str pa_nil))))).run pins s' σ G D I h3
  · refine ⟨EchW K CH CM CN Q, fun cls d σ' H' he hl => ?_, ⟨rfl, jH, h⟩⟩
    obtain ⟨y0, y1, y2, rfl⟩ : ∃ y0 y1 y2, σ' = [y0, y1, y2] := by
      match σ', hl with
      | [a, b, c], _ => exact ⟨a, b, c, rfl⟩
    obtain ⟨e1, C, dd, fs, v, h1, h2, h3, h4, h5, h6, h7⟩ := he
    exact ⟨true, e1, fun _ a na => ⟨_, rfl, rfl, C, dd, fs, v, h1, h2, h3, h4, h5, h6, by show 2 ≤ sizeLine; decide, fun T nT => ⟨_, rfl, h7 T nT⟩⟩, fun z => by cases z⟩
/-- what _law_refused makes of what it asks, where that is refused; Good: how -/
def spRef (K : PySem.W.Frag) (CH CM CN : Addr) : Addr → (XK → Hp → VK → Prop) → List V → Hp → VK → Prop := fun f tl vs H Q => ∃ (due : Str) (Good : XK), vs = [.ref f, .str due] ∧ okS due ∧
  (∀ cls d G, Good cls d G → PySem.W.exmAny K cls (fam CH CM CN) = some true ∧ FldAt K cls d "word" G fun v => ∃ z, v = .str z ∧ okS z ∧ ∀ G', Same G G' → Q (.bl (decide (z = due))) G') ∧ ∀ (E : XK) (R : VK), (∀ cls d G, Good cls d G → E cls d G) → tl E H R
theorem none_shaped {z : Str} (h : okS z) : SeqAt.shaped (.tuple [.none, .str z]) = true := by
  have q := strOk_of h
  show (PyData.canLay0 _ && decide (PyData.depth _ ≤ 64)) = true
  simp [PyData.canLay0, PyData.canLayAll0, PyData.depth, PyData.depthAll, q]
theorem none_eqv (a b : Str) : PyData.eqv (.tuple [.none, .str a]) (.tuple [.none, .str b]) = decide (a = b) := by
  show (PyData.eqv .none .none && (PyData.eqv (.str a) (.str b) && true)) = _
  by_cases e : a = b
  · subst e
    simp [PyData.eqv]
  · simp [PyData.eqv, e]
set_option maxHeartbeats 1000000 in
theorem ok_ref {g gW CH CM CN : Addr} {fd fdW : FuncData} {k : Nat} (F : Fun K "_law_refused" "_law_refused" sRef g fd) (W : DF K mg "_law_word" sWord ["_law_ask"] gW fdW) (hH : mg "HallError" = some (.ref CH)) (hM : mg "Missing" = some (.ref CM)) (hN : mg "NothingLeft" = some (.ref CN)) :
    Uses P w K mg base k (k + 3) g fd ["_law_ask", "_law_due"] (spRef K CH CM CN) := by
  have UW : Uses P w K mg base k (k + 2) gW fdW ["_law_ask"] (spWord K CH CM CN) := ok_word W.F hH hM hN
  refine uses_of F scRef fun cdv A out s H vs Q f J tl hr a jH h => ?_
  obtain ⟨due, Good, rfl, hd, hg, h⟩ := h
  refine ⟨_, pss_one (ps_ret (pe_cmpR (op_eqD hr.units) (pe_uses UW hr (by rfl) W.g W.F.kp W.b (pa_cons (pv 0) pa_nil) a rfl) (pe_tup (pa_cons pe_non (pa_cons (pv 1) pa_nil))) (nomark _))), ?_⟩
  refine ⟨_, rfl, rfl, jH, rfl, h _ _ fun cls d G hG => ?_⟩
  obtain ⟨e1, C, dd, fs, v, h1, h2, h3, h4, h5, h6, z, rfl, hz, q⟩ := hg cls d G hG
  refine ⟨e1, C, dd, fs, _, h1, h2, h3, h4, h5, h6, fun T nT => ?_⟩
  refine ⟨_, rfl, by show 2 ≤ sizeLine; decide, fun T2 nT2 => ?_⟩
  have n12 : T ≠ T2 := ne_of_none upd_same nT2
  refine ⟨_, _, .tup (a := T) (xs := [V.non, .str z]) (SqT.of (by rw [upd_ne n12, upd_same])) (.cons .non (.cons (.str _) .nil)), .tup (a := T2) (xs := [V.non, .str due]) (SqT.of upd_same) (.cons .non (.cons (.str _) .nil)), none_shaped hz, none_shaped hd, ?_⟩
  rw [none_eqv]
  exact q _ (sm_upd (same_upd nT) nT2)
end
end NC
namespace NC
open PySem PySem.Spec PyProof.Rows L2
abbrev sOth : Stmt := topS 25
abbrev sStrange : Stmt := topS 29
abbrev sStr : Stmt := topS 30
theorem scOth : FnScope ["_law_side"] ["_law_side"] (defScope sOth) := ⟨rfl, rfl, rfl, by decide +kernel, rfl, by decide +kernel, by decide +kernel⟩
theorem scStrange : FnScope ["_law_shuts_it", "_law_sign"] ["_law_shuts_it"] (defScope sStrange) := ⟨rfl, rfl, rfl, by decide +kernel, rfl, by decide +kernel, by decide +kernel⟩
theorem scStr : FnScope ["_law_bars_it", "_law_one_it", "_law_two_it", "_law_back"] ["_law_bars_it", "_law_one_it", "_law_two_it"] (defScope sStr) := ⟨rfl, rfl, rfl, by decide +kernel, rfl, by decide +kernel, by decide +kernel⟩
def isLt (c : Nat) : Prop := (97 ≤ c ∧ c ≤ 122) ∨ (65 ≤ c ∧ c ≤ 90)
theorem sds_lt {l : List Nat} (g : GoodW l) {s : Nat} (h : s ∈ sds l) : isLt s := (sds_shape g h).imp (fun z => ⟨z.1, z.2.1⟩) (fun z => ⟨z.1, z.2.1⟩)
theorem isup_sg : ∀ c : Nat, c < 128 → Txt.isupper (sg c) = decide (65 ≤ c ∧ c ≤ 90) := by
  have h : ∀ c : Fin 128, Txt.isupper (sg c.val) = decide (65 ≤ c.val ∧ c.val ≤ 90) := by decide +kernel
  exact fun c hc => h ⟨c, hc⟩
theorem swp_swp {c : Nat} (h : isLt c) : swp (swp c) = c := by
  rcases h with h | h
  · have e : swp c = c - 32 := by unfold swp; rw [if_pos h]
    rw [e]
    unfold swp
    rw [if_neg (by omega), if_pos (by omega)]
    omega
  · have e : swp c = c + 32 := by unfold swp; rw [if_neg (by omega), if_pos h]
    rw [e]
    unfold swp
    rw [if_pos (by omega)]
    omega
theorem isLt.asc {c : Nat} (h : isLt c) : c < 128 := by rcases h with h | h <;> omega
theorem isLt.swp {c : Nat} (h : isLt c) : isLt (swp c) := by
  rcases h with h | h
  · have e : NC.swp c = c - 32 := by unfold NC.swp; rw [if_pos h]
    rw [e]
    exact .inr (by omega)
  · have e : NC.swp c = c + 32 := by unfold NC.swp; rw [if_neg (by omega), if_pos h]
    rw [e]
    exact .inl (by omega)
/-- _law_straight -/
def stB (bs : List (List Nat)) (a b : Nat) : Bool := decide ([a, swp b] ∈ bs) || decide ([swp b, a] ∈ bs)
theorem st_adj {l : List Nat} (g : GoodW l) {bs : List (List Nat)} (hb : ∀ b ∈ bs, isBar l b = true) {a b : Nat} (h : isLt b) : stB bs a b = true ↔ b ∈ adjOf bs a := by
  unfold stB
  rw [Bool.or_eq_true, decide_eq_true_eq, decide_eq_true_eq]
  constructor
  · rintro (z | z)
    · refine List.mem_flatMap.mpr ⟨_, z, ?_⟩
      show b ∈ (if a = a then [swp (swp b)] else []) ++ _
      rw [if_pos rfl, swp_swp h]
      exact List.mem_append_left _ (List.mem_singleton.mpr rfl)
    · refine List.mem_flatMap.mpr ⟨_, z, ?_⟩
      show b ∈ _ ++ (if a = a then [swp (swp b)] else [])
      rw [if_pos rfl, swp_swp h]
      exact List.mem_append_right _ (List.mem_singleton.mpr rfl)
  · intro z
    obtain ⟨c, hc, z⟩ := List.mem_flatMap.mp z
    obtain ⟨x, y, rfl, hx, hy, _⟩ := bar_two (hb c hc)
    have z : b ∈ (if x = a then [swp y] else []) ++ (if y = a then [swp x] else []) := z
    rcases List.mem_append.mp z with z | z
    · split at z
      · rename_i e
        rw [List.mem_singleton.mp z, swp_swp (sds_lt g hy), ← e]
        exact .inl hc
      · cases z
    · split at z
      · rename_i e
        rw [List.mem_singleton.mp z, swp_swp (sds_lt g hx), ← e]
        exact .inr hc
      · cases z
section
variable {P : Program} {w : World} {K : PySem.W.Frag} {mg : Str → Option Value} {base : Heap}
def spOth : Sp := fun vs H Q _ => ∃ c, vs = [.str (sg c)] ∧ isLt c ∧ Q (.str (sg (swp c))) H
theorem ok_oth {f : Addr} {fd : FuncData} {k : Nat} (F : Fun K "_law_other" "_law_other" sOth f fd) : FnOk P w K mg base CX0 (k + 1) f fd ["_law_side"] spOth := by
  refine F.ok scOth (fun vs H Q E h => ?_) (fun cdv A outer s H vs Q E hr h => ?_)
  · obtain ⟨c, rfl, _⟩ := h
    rfl
  · obtain ⟨c, rfl, hc, q⟩ := h
    refine ⟨_, pss_one (ps_ret (pe_ifExp (pt_val (pe_m0 PySem.F.slot_str_isupper PySem.F.type_str_isupper mt_isupper (pv 0))) (pe_lower (pv 0)) (pe_upper (pv 0)))), ?_⟩
    refine ⟨_, rfl, ⟨_, rfl⟩, _, rfl, rfl, trivial, _, rfl, ?_⟩
    have a1 : ∀ e ∈ [c], e < 128 := fun e he => by rw [List.mem_singleton.mp he]; exact hc.asc
    rw [isup_sg c hc.asc]
    refine ite2 (fun t => ?_) (fun t => ?_)
    · have t := of_decide_eq_true t
      refine ⟨_, rfl, ⟨_, rfl⟩, _, rfl, rfl, by show 1 ≤ 5592405; decide, ?_⟩
      rw [show Txt.lower (sg c) = tx [lwc c] from lower_tx (l := [c]) a1, show lwc c = swp c by unfold lwc swp; rw [if_pos t, if_neg (by omega)]]
      exact q
    · have t : ¬ (65 ≤ c ∧ c ≤ 90) := fun z => t (decide_eq_true z)
      have h1 : 97 ≤ c ∧ c ≤ 122 := hc.elim id fun z => absurd z t
      refine ⟨_, rfl, ⟨_, rfl⟩, _, rfl, rfl, by show 1 ≤ 5592405; decide, ?_⟩
      rw [show Txt.upper (sg c) = tx [upc c] from upper_tx (l := [c]) a1, show upc c = swp c by unfold upc swp; rw [if_pos h1, if_pos h1]]
      exact q
def spStrange : Sp := fun vs H Q _ => ∃ l, vs = [.str (tx l)] ∧ GoodW l ∧ ∀ H' c, Same H H' → c ∉ l → 97 ≤ c → c ≤ 122 → Q (.str (sg c)) H'
set_option maxHeartbeats 1000000 in
theorem ok_strange {f fL : Addr} {fd fdL : FuncData} {k : Nat} (F : Fun K "_law_strange" "_law_strange" sStrange f fd) (Lt : DF K mg "_law_letters" sLetters [] fL fdL) : FnOk P w K mg base CX0 (k + 2) f fd ["_law_shuts_it"] spStrange := by
  have GL := ok_letters (P := P) (w := w) (mg := mg) (base := base) (k := k) Lt.F
  refine F.ok scStrange (fun vs H Q E h => ?_) (fun cdv A outer s H vs Q E hr h => ?_)
  · obtain ⟨t, rfl, _⟩ := h
    rfl
  · obtain ⟨l, rfl, g, q⟩ := h
    refine ⟨_, pss_one (ps_ret (pe_ix ix_list (pe_lc (own := [("_law_sign", 1)]) (g := gName 1) rfl scStrange.nd (pi_str (pe_call0 GL hr rfl Lt.g Lt.F.kp Lt.b .nil pass0))
      (blkOk_by (N := ["_law_shuts_it", "_law_sign"]) (sc := defScope sStrange) (by decide +kernel)) (fun _ _ _ _ _ => pg_name (i := 1) scStrange.nd rfl (Or.inl rfl))
      (fun _ _ _ _ _ => pts_one (pt_cmpR op_notIn_sign (pv 1) (pv 0) (by rfl))) (fun _ _ _ _ _ => pv 1)) pe_int (fun _ _ => rfl))), ?_⟩
    refine ⟨rfl, _, rfl, fun D nD => ?_⟩
    have lz : (tx ltrs).cps.size = 26 := tx_len _
    refine lc_it walk_str (fun i H' => Same H H' ∧ H' D = some (.lst ((((ltrs.take i).filter fun c => !decide (c ∈ l)).map sg).map V.str))) ⟨same_upd nD, upd_same⟩ (fun _ _ _ _ => trivial) ?_ ?_
    · rintro i x H1 H2 hi ⟨s1, e1⟩ ⟨rfl, c, hc, rfl⟩
      have hcl : ltrs[i]? = some c := by
        rw [← Array.getElem?_toList, tx_list] at hc
        exact hc
      have tk : ltrs.take (i + 1) = ltrs.take i ++ [c] := by rw [List.take_add_one, hcl]; rfl
      refine ⟨rfl, _, rfl, _, rfl, c, tx l, rfl, rfl, _, rfl, ?_⟩
      rw [tx_list]
      refine ite2 (fun t => ⟨_, rfl, _, e1, ?_, sm_over s1 nD, ?_⟩) (fun t => ⟨s1, ?_⟩)
      · rw [List.length_map, List.length_map, sizeLine_eq]
        have h1 : ((ltrs.take i).filter fun c => !decide (c ∈ l)).length ≤ 26 := Nat.le_trans (List.length_filter_le _ _) (by rw [List.length_take]; exact Nat.min_le_right _ _)
        omega
      · rw [upd_same, tk, List.filter_append, List.filter_cons, if_pos t]
        simp [sg]
      · rw [e1, tk, List.filter_append, List.filter_cons, if_neg t]
        simp
    · rintro H1 ⟨s1, e1⟩
      rw [lz, List.take_of_length_le (by decide)] at e1
      obtain ⟨c, r, er⟩ : ∃ c r, (ltrs.filter fun c => !decide (c ∈ l)) = c :: r := by
        cases hf : (ltrs.filter fun c => !decide (c ∈ l)) with
        | cons c r => exact ⟨c, r, rfl⟩
        | nil =>
          have hall : ∀ x ∈ ltrs, x ∈ l := fun x hx => by
            refine Classical.byContradiction fun z => ?_
            have : x ∈ (ltrs.filter fun c => !decide (c ∈ l)) := List.mem_filter.mpr ⟨hx, by simp [z]⟩
            rw [hf] at this
            cases this
          have := nd_len ltrs l (by decide) hall
          have h26 : ltrs.length = 26 := by decide
          have := g.hi
          omega
      have hm : c ∈ (ltrs.filter fun c => !decide (c ∈ l)) := by rw [er]; exact List.mem_cons_self ..
      obtain ⟨m1, m2⟩ := List.mem_filter.mp hm
      obtain ⟨i, hi⟩ := List.getElem?_of_mem m1
      have := ltrs_at hi
      rw [er] at e1
      refine ⟨D, _, 0, .str (sg c), rfl, rfl, SqL.of e1, atI_nat (j := 0) rfl, q H1 c s1 (by simpa using m2) (by omega) (by omega)⟩
def spStr (K : PySem.W.Frag) : Sp := fun vs H Q _ => ∃ p bs a b, vs = [.ref p, .str (sg a), .str (sg b)] ∧ SqL K H p ((bs.map tx).map V.str) ∧ isLt b ∧ Q (.bl (stB bs a b)) H
theorem mem_tx {x : List Nat} {bs : List (List Nat)} : tx x ∈ bs.map tx ↔ x ∈ bs := by
  constructor
  · intro h
    obtain ⟨y, hy, e⟩ := List.mem_map.mp h
    rw [← tx_inj e]
    exact hy
  · exact fun h => List.mem_map.mpr ⟨x, h, rfl⟩
theorem inV_tx (x : List Nat) (bs : List (List Nat)) : inV (.str (tx x)) ((bs.map tx).map V.str) = decide (x ∈ bs) := by
  rw [inV_str]
  by_cases h : x ∈ bs
  · rw [decide_eq_true h, decide_eq_true (mem_tx.mpr h)]
  · rw [decide_eq_false h, decide_eq_false fun z => h (mem_tx.mp z)]
theorem ok_str {f fO : Addr} {fd fdO : FuncData} {k : Nat} (F : Fun K "_law_straight" "_law_straight" sStr f fd) (O : DF K mg "_law_other" sOth ["_law_side"] fO fdO) : FnOk P w K mg base CX0 (k + 2) f fd ["_law_bars_it", "_law_one_it", "_law_two_it"] (spStr K) := by
  have GO : FnOk P w K mg base CX0 (k + 1) fO fdO ["_law_side"] spOth := ok_oth O.F
  refine F.ok scStr (fun vs H Q E h => ?_) (fun cdv A outer s H vs Q E hr h => ?_)
  · obtain ⟨p, bs, a, b, rfl, _⟩ := h
    rfl
  · obtain ⟨p, bs, a, b, rfl, hS, hb, q⟩ := h
    refine ⟨_, pss_cons (ps_set (i := 3) scStr.nd rfl (.inl rfl) (pe_call GO hr rfl O.g O.F.kp O.b .nil pass0 (pa_cons (pv 2) pa_nil)))
      (pss_one (ps_ret (pe_or (pe_cmpR op_in_seq (pe_op op_add_str (pv 1) (pv 3)) (pv 0) (by rfl)) (pe_one (pe_cmpR op_in_seq (pe_op op_add_str (pv 3) (pv 1)) (pv 0) (by rfl)))))), ?_⟩
    refine ⟨_, rfl, b, rfl, hb, ?_⟩
    refine ⟨_, rfl, _, rfl, _, _, rfl, rfl, by show 1 + 1 ≤ sizeLine; decide, _, rfl, p, _, rfl, .inl hS, rfl, flat_str _, _, rfl, ?_⟩
    have e1 : inV (.str (sg a ++ sg (swp b))) ((bs.map tx).map V.str) = decide ([a, swp b] ∈ bs) := by rw [sg_tx, sg_tx, tx_app]; exact inV_tx _ _
    have e2 : inV (.str (sg (swp b) ++ sg a)) ((bs.map tx).map V.str) = decide ([swp b, a] ∈ bs) := by rw [sg_tx, sg_tx, tx_app]; exact inV_tx _ _
    show if inV (.str (sg a ++ sg (swp b))) ((bs.map tx).map V.str) = true then _ else _
    unfold stB at q
    rw [e1]
    refine ite2 (fun t => ?_) (fun t => ?_)
    · rw [t] at q
      exact q
    · rw [Bool.eq_false_iff.mpr t] at q
      refine ⟨_, rfl, _, rfl, _, _, rfl, rfl, by show 1 + 1 ≤ sizeLine; decide, _, rfl, p, _, rfl, .inl hS, rfl, flat_str _, ?_⟩
      show Q (.bl (inV (.str (sg (swp b) ++ sg a)) ((bs.map tx).map V.str))) H
      rw [e2]
      exact q
end
end NC
namespace NC
open PySem PySem.Spec PyProof.Rows L2
abbrev sFar : Stmt := topS 31
abbrev nFar : List Str := ["_law_shuts_it", "_law_bars_it", "_law_one_it", "_law_two_it", "_law_sides", "_law_near_it", "_law_many", "_law_known", "_law_later", "_law_shut", "_law_side", "_law_here"]
theorem scFar : FnScope nFar ["_law_shuts_it", "_law_bars_it", "_law_one_it", "_law_two_it"] (defScope sFar) := ⟨rfl, rfl, rfl, by decide +kernel, rfl, by decide +kernel, by decide +kernel⟩
def sd2 (l : List Nat) : List Nat := l ++ l.map upc
theorem sd2_mem {l : List Nat} {s : Nat} : s ∈ sd2 l ↔ s ∈ sds l := by
  unfold sd2 sds
  rw [List.mem_append, List.mem_append]
  exact Or.comm
theorem sd2_nd {l : List Nat} (g : GoodW l) : (sd2 l).Nodup := (List.perm_append_comm (l₁ := l) (l₂ := l.map upc)).nodup_iff.mpr (sds_nd g)
theorem sd2_len {l : List Nat} (g : GoodW l) : (sd2 l).length ≤ 24 := by
  unfold sd2
  rw [List.length_append, List.length_map]
  have := g.hi
  omega
theorem Dst.pred {adj : Nat → List Nat} {one n t : Nat} (h : Dst adj one (n + 1) t) : ∃ s, Dst adj one n s ∧ t ∈ adj s := by
  obtain ⟨w, m⟩ := h
  cases w with
  | step ws ht => exact ⟨_, ⟨ws, fun j hj wj => m (j + 1) (by omega) (.step wj ht)⟩, ht⟩
theorem Dst.pre {adj : Nat → List Nat} {one : Nat} : ∀ {k t : Nat}, Dst adj one k t → ∀ {n : Nat}, n ≤ k → ∃ s, Dst adj one n s
  | 0, t, h, n, hn => by
    obtain rfl : n = 0 := by omega
    exact ⟨t, h⟩
  | k + 1, t, h, n, hn => by
    rcases Nat.lt_or_ge k n with z | z
    · obtain rfl : n = k + 1 := by omega
      exact ⟨t, h⟩
    · obtain ⟨s, hs, _⟩ := h.pred
      exact Dst.pre hs z
theorem dst_min {adj : Nat → List Nat} {one : Nat} : ∀ {n t : Nat}, Wk adj one n t → ∃ k, k ≤ n ∧ Dst adj one k t := fun {n} => by
  induction n using Nat.strongRecOn with
  | ind n ih =>
    intro t w
    by_cases h : ∃ m, m < n ∧ Wk adj one m t
    · obtain ⟨m, hm, wm⟩ := h
      obtain ⟨k, hk, d⟩ := ih m hm wm
      exact ⟨k, by omega, d⟩
    · exact ⟨n, Nat.le_refl _, w, fun m hm wm => h ⟨m, hm, wm⟩⟩
/-- what _law_far knows at the level n -/
structure FarOk (l : List Nat) (adj : Nat → List Nat) (one two n : Nat) (nr kn : List Nat) : Prop where
  near : ∀ t, t ∈ nr ↔ Dst adj one n t
  known : ∀ t, t ∈ kn ↔ ∃ m, m ≤ n ∧ Wk adj one m t
  nd : kn.Nodup
  sub : ∀ t ∈ kn, t ∈ sds l
  nsub : ∀ t ∈ nr, t ∈ sds l
  nn : nr.Nodup
  no : ∀ m, m < n → ¬ Dst adj one m two
def nextNear (l : List Nat) (bs : List (List Nat)) (near known : List Nat) : List Nat := ((sd2 l).filter fun s => !decide (s ∈ known)).filter fun s => near.any fun h => stB bs h s
theorem FarOk.start {l : List Nat} {adj : Nat → List Nat} {one two : Nat} (h : one ∈ sds l) : FarOk l adj one two 0 [one] [one] where
  near := fun t => by
    rw [List.mem_singleton]
    constructor
    · rintro rfl
      exact .zero
    · rintro ⟨w, _⟩
      cases w
      rfl
  known := fun t => by
    rw [List.mem_singleton]
    constructor
    · rintro rfl
      exact ⟨0, Nat.le_refl _, .zero⟩
    · rintro ⟨m, hm, w⟩
      obtain rfl : m = 0 := by omega
      cases w
      rfl
  nd := by simp
  sub := fun t ht => by rw [List.mem_singleton.mp ht]; exact h
  nsub := fun t ht => by rw [List.mem_singleton.mp ht]; exact h
  nn := by simp
  no := fun m hm => absurd hm (Nat.not_lt_zero _)
theorem FarOk.near_len {l : List Nat} (g : GoodW l) {adj : Nat → List Nat} {one two n : Nat} {near known : List Nat} (F : FarOk l adj one two n near known) : near.length ≤ 24 := Nat.le_trans (nd_len near (sds l) F.nn F.nsub) (sds_len g)
theorem FarOk.known_len {l : List Nat} (g : GoodW l) {adj : Nat → List Nat} {one two n : Nat} {near known : List Nat} (F : FarOk l adj one two n near known) : known.length ≤ 24 := Nat.le_trans (nd_len known (sds l) F.nd F.sub) (sds_len g)
theorem FarOk.next {l : List Nat} (g : GoodW l) {bs : List (List Nat)} (hb : ∀ b ∈ bs, isBar l b = true) {one two n : Nat} {near known : List Nat} (F : FarOk l (adjOf bs) one two n near known) (h2 : two ∉ near) (hne : near ≠ []) :
    FarOk l (adjOf bs) one two (n + 1) (nextNear l bs near known) (known ++ nextNear l bs near known) := by
  have mem : ∀ t, t ∈ nextNear l bs near known ↔ t ∈ sds l ∧ t ∉ known ∧ ∃ h ∈ near, t ∈ adjOf bs h := fun t => by
    unfold nextNear
    rw [List.mem_filter, List.mem_filter, sd2_mem, List.any_eq_true]
    constructor
    · rintro ⟨⟨a, b⟩, h, c, d⟩
      exact ⟨a, by simpa using b, h, c, (st_adj g hb (sds_lt g a)).mp d⟩
    · rintro ⟨a, b, h, c, d⟩
      exact ⟨⟨a, by simpa using b⟩, h, c, (st_adj g hb (sds_lt g a)).mpr d⟩
  have near' : ∀ t, t ∈ nextNear l bs near known ↔ Dst (adjOf bs) one (n + 1) t := fun t => by
    rw [mem]
    constructor
    · rintro ⟨_, a, h, b, c⟩
      exact ⟨.step ((F.near h).mp b).1 c, fun m hm w => a ((F.known t).mpr ⟨m, by omega, w⟩)⟩
    · intro d
      obtain ⟨s, ds, hs⟩ := d.pred
      refine ⟨adj_mem g hb hs, fun z => ?_, s, (F.near s).mpr ds, hs⟩
      obtain ⟨m, hm, w⟩ := (F.known t).mp z
      exact d.2 m (by omega) w
  have nn' : (nextNear l bs near known).Nodup := ((sd2_nd g).filter _).filter _
  refine ⟨near', fun t => ?_, ?_, fun t ht => ?_, fun t ht => ((mem t).mp ht).1, nn', fun m hm d => ?_⟩
  · rw [List.mem_append, F.known, near']
    constructor
    · rintro (⟨m, a, b⟩ | d)
      · exact ⟨m, by omega, b⟩
      · exact ⟨n + 1, Nat.le_refl _, d.1⟩
    · rintro ⟨m, a, b⟩
      obtain ⟨k, hk, d⟩ := dst_min b
      rcases Nat.lt_or_ge n k with z | z
      · obtain rfl : k = n + 1 := by omega
        exact .inr d
      · exact .inl ⟨k, z, d.1⟩
  · exact List.nodup_append.mpr ⟨F.nd, nn', fun a ha b hb2 e => ((mem b).mp hb2).2.1 (by rw [← e]; exact ha)⟩
  · rcases List.mem_append.mp ht with z | z
    · exact F.sub t z
    · exact ((mem t).mp z).1
  · rcases Nat.lt_or_ge m n with z | z
    · exact F.no m z d
    · obtain rfl : m = n := by omega
      exact h2 ((F.near two).mpr d)
theorem FarOk.out {l : List Nat} {adj : Nat → List Nat} {one two n : Nat} {near known : List Nat} (F : FarOk l adj one two n near known) (h : near = []) : ∀ k, ¬ Wk adj one k two := fun k w => by
  obtain ⟨j, _, d⟩ := dst_min w
  rcases Nat.lt_or_ge j n with z | z
  · exact F.no j z d
  · obtain ⟨s, ds⟩ := d.pre z
    have := (F.near s).mpr ds
    rw [h] at this
    cases this
end NC
namespace NC
open PySem PySem.Spec PyProof.Rows L2
section
variable {P : Program} {w : World} {K : PySem.W.Frag} {mg : Str → Option Value} {base : Heap}
theorem ne_eqv (a b : List Str) : (!PyData.eqv (.list (a.map .str)) (.list (b.map .str))) = !decide (a = b) := by
  show (!PyData.eqvAll _ _) = _
  rw [eqvAll_strs]
/-- the scope of the comprehension around the inner one -/
def scpN : Scope := { kind := .function, names := [(".0", .local), ("_law_side", .cell), ("any", .globalImplicit), ("_law_bars_it", .cell), ("_law_near_it", .cell)], isGenerator := false, isCoroutine := false }
def tNr (K : PySem.W.Frag) : TT := tB (tCB (rAny K) (tCons (tLc (iList K (tVar 5)) (gName 11) tYes (tCall (spStr K) [] E0 (tCons (tVar 1) (tCons (tVar 11) (tCons (tVar 10) tNil)))) [11]) tNil))
def spFar (K : PySem.W.Frag) : Sp := fun vs H Q _ => ∃ l a bs one two, vs = [.str (tx l), .ref a, .str (sg one), .str (sg two)] ∧ GoodW l ∧ (∀ b ∈ bs, isBar l b = true) ∧ SqL K H a ((bs.map tx).map V.str) ∧ one ∈ sds l ∧ two ∈ sds l ∧
  (∀ H' n, Same H H' → Dst (adjOf bs) one n two → Q (.int (n : Nat)) H') ∧ (∀ H', Same H H' → (∀ n, ¬ Wk (adjOf bs) one n two) → Q .non H')
set_option maxHeartbeats 2000000 in
theorem ok_far {f fS fO : Addr} {fd fdS fdO : FuncData} {k : Nat} (B : BM mg) (hany : mg "any" = none) (F : Fun K "_law_far" "_law_far" sFar f fd) (S : DF K mg "_law_straight" sStr ["_law_bars_it", "_law_one_it", "_law_two_it"] fS fdS) (O : DF K mg "_law_other" sOth ["_law_side"] fO fdO) :
    FnOk P w K mg base CX0 (k + 3) f fd ["_law_shuts_it", "_law_bars_it", "_law_one_it", "_law_two_it"] (spFar K) := by
  have GS : FnOk P w K mg base CX0 (k + 2) fS fdS ["_law_bars_it", "_law_one_it", "_law_two_it"] (spStr K) := ok_str S.F O
  refine F.ok scFar (fun vs H Q E h => ?_) (fun cdv A outer s H vs Q E hr h => ?_)
  · obtain ⟨l, a, bs, one, two, rfl, _⟩ := h
    rfl
  · obtain ⟨l, a, bs, one, two, rfl, g, hb, hS, h1, h2, qi, qn⟩ := h
    have nd := scFar.nd
    refine ⟨_, pss_cons (ps_set (i := 4) nd rfl (.inl rfl) (pe_op op_cat (pe_callTy (cr_listS rfl) (by rfl) B.list (by decide +kernel) (pa_cons (pv 0) pa_nil))
        (pe_lc (own := [("_law_shut", 9)]) (g := gName 9) (tt := tYes) rfl nd (pi_str (pv 0)) (blkOk_by (N := nFar) (sc := defScope sFar) (by decide +kernel)) (fun _ _ _ _ _ => pg_name (i := 9) nd rfl (Or.inl rfl)) (fun _ _ _ _ _ => pts_nil) (fun _ _ _ _ _ => pe_upper (pv 9)))))
      (pss_cons (ps_asg (pe_tup (pa_cons (pe_lst (pa_cons (pv 2) pa_nil)) (pa_cons pe_int pa_nil))) (pg_tup rfl (pgs_cons (pg_name (i := 5) nd rfl (.inr rfl)) (pgs_cons (pg_name (i := 6) nd rfl (.inl rfl)) pgs_nil))))
      (pss_cons (ps_set (i := 7) nd rfl (.inr rfl) (pe_lst (pa_cons (pv 2) pa_nil)))
      (pss_cons (ps_while PassesOwn.never (pt_cmpR (op_neD hr.units) (pv 5) (pe_lst pa_nil) (nomark _))
        (pss_cons (ps_if (pt_cmpR op_in_seq (pv 3) (pv 5) (by rfl)) (pss_one (ps_ret (pv 6))) pss_nil)
        (pss_cons (ps_setLc (i := 8) (own := [("_law_side", 10)]) (g := gName 10) (tt := tB (tOp (rIn K true) (tVar 10) (tVar 7))) rfl nd rfl rfl (sw_true rfl rfl rfl (by decide +kernel)) (pi_list (pv 4)) (blkOk_by (N := nFar) (sc := defScope sFar) (by decide +kernel)) (fun _ _ _ _ _ => pg_name (i := 10) nd rfl (Or.inl rfl))
          (fun _ _ _ _ _ => pts_one (pt_cmpR op_notIn_seq (pv 10) (pv 7) (by rfl))) (fun _ _ _ _ _ => pv 10))
        (pss_cons (ps_set (i := 5) nd rfl (.inr rfl) (pe_lc (own := [("_law_side", 10)]) (g := gName 10) (tt := tNr K) rfl nd (pi_list (pv 8)) (blkOk_by (N := nFar) (sc := defScope sFar) (by decide +kernel)) (fun _ _ _ _ _ => pg_name (i := 10) nd rfl (Or.inr rfl))
          (fun _ _ _ _ _ => pts_one (pt_val (pe_callB (cr_any rfl) (by rfl) hany (by decide +kernel) (pa_cons (pe_lc (own := [("_law_here", 11)]) (g := gName 11) (tt := tYes) (te := tCall (spStr K) [] E0 (tCons (tVar 1) (tCons (tVar 11) (tCons (tVar 10) tNil)))) rfl nd (pi_list (pv 5)) (blkOk_by (N := nFar) (sc := scpN) (by decide +kernel)) (fun _ _ _ _ _ => pg_name (i := 11) nd rfl (Or.inl rfl)) (fun _ _ _ _ _ => pts_nil)
            (fun _ _ _ _ _ => pe_call GS hr rfl S.g S.F.kp S.b .nil pass0 (pa_cons (pv 1) (pa_cons (pv 11) (pa_cons (pv 10) pa_nil))))) pa_nil)))) (fun _ _ _ _ _ => pv 10)))
        (pss_cons (ps_set (i := 7) nd rfl (.inr rfl) (pe_op op_cat (pv 7) (pv 5)))
        (pss_one (ps_set (i := 6) nd rfl (.inl rfl) (pe_op op_add (pv 6) pe_int))))))))
      (pss_one (ps_ret pe_non))))), ?_⟩
    have hz : (tx l).length ≤ sizeLine := by rw [tx_len, sizeLine_eq]; have := g.hi; omega
    have hl12 := g.hi
    refine ⟨_, rfl, tx l, rfl, hz, fun p0 np0 => ?_⟩
    rw [sgs_tx]
    refine ⟨_, rfl, tx l, rfl, fun D0 nD0 => ?_⟩
    have n0D : p0 ≠ D0 := ne_of_none upd_same nD0
    have lz : (tx l).cps.size = l.length := tx_len _
    refine lc_it walk_str (fun j H' => Same H H' ∧ H' p0 = some (.lst ((l.map sg).map V.str)) ∧ H' D0 = some (.lst ((((l.take j).map upc).map sg).map V.str))) ⟨sm_upd (same_upd np0) nD0, by rw [upd_ne n0D, upd_same], upd_same⟩ (fun _ _ _ _ => trivial) ?_ ?_
    · rintro j x H1 H2 hj ⟨s1, e0, e1⟩ ⟨rfl, c, hc, rfl⟩
      have hcl : l[j]? = some c := by
        rw [← Array.getElem?_toList, tx_list] at hc
        exact hc
      have hca : c < 128 := g.asc c (List.mem_of_getElem? hcl)
      have nDH : H D0 = none := L2.Same.free (same_upd np0) nD0
      refine ⟨rfl, yes_i ⟨_, rfl, ⟨_, rfl⟩, _, rfl, rfl, by show 1 ≤ 5592405; decide, ?_⟩⟩
      rw [show Txt.upper (⟨#[c]⟩ : Str) = sg (upc c) from upper_tx (l := [c]) (fun e he => by rw [List.mem_singleton.mp he]; exact hca)]
      refine ⟨_, e1, ?_, sm_over s1 nDH, by rw [upd_ne n0D]; exact e0, ?_⟩
      · rw [List.length_map, List.length_map, List.length_map, List.length_take, sizeLine_eq]
        omega
      · rw [upd_same, List.take_add_one, hcl, List.map_append, List.map_append, List.map_append]
        rfl
    rintro H1 ⟨s1, e0, e1⟩
    rw [lz, List.take_length] at e1
    refine ⟨p0, D0, _, _, rfl, rfl, e0, e1, by rw [List.length_map, List.length_map, List.length_map, List.length_map, List.length_map, sizeLine_eq]; omega, fun A4 n4 => ?_⟩
    have e4 : (upd H1 A4 (.lst ((l.map sg).map V.str ++ ((l.map upc).map sg).map V.str))) A4 = some (.lst (((sd2 l).map sg).map V.str)) := by
      rw [upd_same]
      unfold sd2
      rw [List.map_append, List.map_append]
    have s2 : Same H (upd H1 A4 (.lst ((l.map sg).map V.str ++ ((l.map upc).map sg).map V.str))) := sm_upd s1 n4
    generalize (upd H1 A4 (.lst ((l.map sg).map V.str ++ ((l.map upc).map sg).map V.str))) = H2 at e4 s2 ⊢
    refine ⟨_, rfl, by show 1 ≤ sizeLine; decide, fun A5 n5 => ?_⟩
    refine ⟨by show 2 ≤ sizeLine; decide, fun T nT => ?_⟩
    refine ⟨T, _, rfl, SqT.of upd_same, rfl, _, _, rfl, _, _, rfl, rfl, ?_⟩
    have n45 : A4 ≠ A5 := ne_of_none e4 n5
    have n5T : A5 ≠ T := ne_of_none upd_same nT
    have e5 : (upd (upd H2 A5 (.lst [.str (sg one)])) T (.tup [.ref A5, .int 0])) A5 = some (.lst (([one].map sg).map V.str)) := by rw [upd_ne n5T, upd_same]; rfl
    have s3 : Same H2 (upd (upd H2 A5 (.lst [.str (sg one)])) T (.tup [.ref A5, .int 0])) := sm_upd (same_upd n5) nT
    generalize (upd (upd H2 A5 (.lst [.str (sg one)])) T (.tup [.ref A5, .int 0])) = H3 at e5 s3 ⊢
    refine ⟨_, rfl, by show 1 ≤ sizeLine; decide, fun A7 n7 => ?_⟩
    have e7 : (upd H3 A7 (.lst [.str (sg one)])) A7 = some (.lst (([one].map sg).map V.str)) := by rw [upd_same]; rfl
    have s4 : Same H3 (upd H3 A7 (.lst [.str (sg one)])) := same_upd n7
    generalize (upd H3 A7 (.lst [.str (sg one)])) = H4 at e7 s4 ⊢
    refine ⟨fun m σ H' => ∃ (n : Nat) (nr kn : List Nat) (N5 N7 : Addr) (y8 y9 y10 y11 : Option V), σ = [some (.str (tx l)), some (.ref a), some (.str (sg one)), some (.str (sg two)), some (.ref A4), some (.ref N5), some (.int (n : Nat)), some (.ref N7), y8, y9, y10, y11] ∧ Same H H' ∧
      H' A4 = some (.lst (((sd2 l).map sg).map V.str)) ∧ H' N5 = some (.lst ((nr.map sg).map V.str)) ∧ H' N7 = some (.lst ((kn.map sg).map V.str)) ∧ FarOk l (adjOf bs) one two n nr kn ∧ m = 2 * (24 - kn.length) + (if nr = [] then 0 else 1), ?_, ?_⟩
    · exact ⟨_, 0, [one], [one], A5, A7, _, _, _, _, rfl, sm_trans (sm_trans s2 s3) s4, s4 _ _ (s3 _ _ e4), s4 _ _ e5, e7, .start h1, rfl⟩
    · rintro m σ G0 ⟨n, nr, kn, N5, N7, y8, y9, y10, y11, rfl, t0, f4, f5, f7, Fk, rfl⟩
      have nrl := Fk.near_len g
      have knl := Fk.known_len g
      have okn : ∀ x ∈ nr.map sg, okS x := fun x hx => by
        obtain ⟨c, hc, rfl⟩ := List.mem_map.mp hx
        exact okS_sg (sds_asc g (Fk.nsub c hc))
      refine ⟨_, rfl, Nat.zero_le _, fun T nT => ?_⟩
      have u1 : Same G0 (upd G0 T (.lst [])) := same_upd nT
      refine ⟨_, _, .lst (SqL.of (u1 _ _ f5)) (dpAll_strs _), .lst (xs := []) (SqL.of upd_same) (dpAll_strs (K := K) []), shaped_strs okn, shaped_strs (xs := []) (fun x hx => by cases hx), _, rfl, ?_⟩
      rw [ne_eqv]
      generalize (upd G0 T (.lst [])) = G1 at u1 ⊢
      by_cases hne : nr = []
      · subst hne
        refine iteF ?_
        exact qn G1 (sm_trans t0 u1) (Fk.out rfl)
      · have hne2 : ¬ nr.map sg = [] := fun z => hne (List.map_eq_nil_iff.mp z)
        rw [decide_eq_false hne2]
        refine iteT ⟨_, fun σ' H' h => h, ?_⟩
        have inN : inV (.str (sg two)) ((nr.map sg).map V.str) = decide (two ∈ nr) := by
          rw [inV_str]
          by_cases hm : two ∈ nr
          · rw [decide_eq_true hm, decide_eq_true (mem_sg.mpr hm)]
          · rw [decide_eq_false hm, decide_eq_false fun z => hm (mem_sg.mp z)]
        refine ⟨_, rfl, _, rfl, N5, _, rfl, .inl (SqL.of (u1 _ _ f5)), rfl, flat_str _, _, rfl, ?_⟩
        show if inV (.str (sg two)) ((nr.map sg).map V.str) = true then _ else _
        rw [inN]
        refine ite2 (fun hm => ?_) (fun hm => ?_)
        · exact ⟨_, rfl, qi G1 n (sm_trans t0 u1) ((Fk.near two).mp (of_decide_eq_true hm))⟩
        have h2n : two ∉ nr := fun z => hm (decide_eq_true z)
        -- later
        have wk4 := walk_list (K := K) (a := A4) (xs := ((sd2 l).map sg).map V.str)
        rw [List.length_map, List.length_map] at wk4
        refine ⟨_, rfl, A4, rfl, ⟨_, SqL.of (u1 _ _ f4)⟩, fun D8 n8 => ?_⟩
        refine lc_it wk4 (fun j H' => Same G1 H' ∧ H' D8 = some (.lst (((((sd2 l).take j).filter fun s => !decide (s ∈ kn)).map sg).map V.str))) ⟨same_upd n8, upd_same⟩ (fun j H' _ h => SqL.of (h.1 _ _ (u1 _ _ f4))) ?_ ?_
        · rintro j x G2 G3 hj ⟨u2, e8⟩ ⟨rfl, hx⟩
          rw [List.getElem?_map, List.getElem?_map] at hx
          obtain ⟨z, hz1, rfl⟩ := Option.map_eq_some_iff.mp hx
          obtain ⟨c, hc, rfl⟩ := Option.map_eq_some_iff.mp hz1
          have tk : (sd2 l).take (j + 1) = (sd2 l).take j ++ [c] := by rw [List.take_add_one, hc]; rfl
          have inK2 : inV (.str (sg c)) ((kn.map sg).map V.str) = decide (c ∈ kn) := by
            rw [inV_str]
            by_cases hm : c ∈ kn
            · rw [decide_eq_true hm, decide_eq_true (mem_sg.mpr hm)]
            · rw [decide_eq_false hm, decide_eq_false fun z => hm (mem_sg.mp z)]
          refine ⟨rfl, _, rfl, _, rfl, N7, _, rfl, .inl (SqL.of (u2 _ _ (u1 _ _ f7))), rfl, flat_str _, _, rfl, ?_⟩
          show if (!inV (.str (sg c)) ((kn.map sg).map V.str)) = true then _ else _
          rw [inK2]
          refine ite2 (fun t => ⟨_, rfl, _, e8, ?_, sm_over u2 n8, ?_⟩) (fun t => ⟨u2, ?_⟩)
          · rw [List.length_map, List.length_map, sizeLine_eq]
            have h1 : (((sd2 l).take j).filter fun s => !decide (s ∈ kn)).length ≤ 24 := Nat.le_trans (List.length_filter_le _ _) (by rw [List.length_take]; exact Nat.le_trans (Nat.min_le_right _ _) (sd2_len g))
            omega
          · rw [upd_same, tk, List.filter_append, List.filter_cons, if_pos t]
            simp
          · rw [e8, tk, List.filter_append, List.filter_cons, if_neg t]
            simp
        rintro G2 ⟨u2, e8⟩
        rw [List.take_length] at e8
        generalize hLt : ((sd2 l).filter fun s => !decide (s ∈ kn)) = lt at e8
        have ltS : ∀ c ∈ lt, c ∈ sds l := fun c hc => by
          rw [← hLt] at hc
          exact sd2_mem.mp (List.mem_filter.mp hc).1
        have ltl : lt.length ≤ 24 := by
          rw [← hLt]
          exact Nat.le_trans (List.length_filter_le _ _) (sd2_len g)
        -- near
        have wk8 := walk_list (K := K) (a := D8) (xs := (lt.map sg).map V.str)
        rw [List.length_map, List.length_map] at wk8
        refine ⟨_, rfl, D8, rfl, ⟨_, SqL.of e8⟩, fun D5 n5 => ?_⟩
        have v8 : D8 ≠ D5 := ne_of_none e8 n5
        refine lc_it wk8 (fun j H' => Same G2 H' ∧ H' D5 = some (.lst ((((lt.take j).filter fun s => nr.any fun h => stB bs h s).map sg).map V.str))) ⟨same_upd n5, upd_same⟩ (fun j H' _ h => SqL.of (h.1 _ _ e8)) ?_ ?_
        · rintro j x G3 G4 hj ⟨u3, e5'⟩ ⟨rfl, hx⟩
          rw [List.getElem?_map, List.getElem?_map] at hx
          obtain ⟨z, hz1, rfl⟩ := Option.map_eq_some_iff.mp hx
          obtain ⟨c, hc, rfl⟩ := Option.map_eq_some_iff.mp hz1
          have hcL : isLt c := sds_lt g (ltS c (List.mem_of_getElem? hc))
          have tk : lt.take (j + 1) = lt.take j ++ [c] := by rw [List.take_add_one, hc]; rfl
          have u03 : Same G0 G4 := sm_trans (sm_trans u1 u2) u3
          have wk5 := walk_list (K := K) (a := N5) (xs := (nr.map sg).map V.str)
          rw [List.length_map, List.length_map] at wk5
          refine ⟨rfl, _, rfl, N5, rfl, ⟨_, SqL.of (u03 _ _ f5)⟩, fun Da na => ?_⟩
          refine lc_it wk5 (fun u H' => Same G4 H' ∧ H' Da = some (.lst (((nr.take u).map fun h => stB bs h c).map V.bl))) ⟨same_upd na, upd_same⟩ (fun u H' _ h => SqL.of (h.1 _ _ (u03 _ _ f5))) ?_ ?_
          · rintro u x G5 G6 hu ⟨u5, ea⟩ ⟨rfl, hx⟩
            rw [List.getElem?_map, List.getElem?_map] at hx
            obtain ⟨z, hz1, rfl⟩ := Option.map_eq_some_iff.mp hx
            obtain ⟨h, hh, rfl⟩ := Option.map_eq_some_iff.mp hz1
            refine ⟨rfl, yes_i ⟨_, rfl, _, rfl, _, rfl, a, bs, h, c, rfl, sm_l (sm_trans (sm_trans t0 u03) u5) hS, hcL, _, ea, ?_, sm_over u5 na, ?_⟩⟩
            · rw [List.length_map, List.length_map, List.length_take, sizeLine_eq]
              omega
            · rw [upd_same, List.take_add_one, hh, List.map_append, List.map_append]
              rfl
          · rintro G5 ⟨u5, ea⟩
            rw [List.take_length] at ea
            refine ⟨Da, _, rfl, SqL.of ea, _, rfl, ?_⟩
            have eany : (nr.map fun h => stB bs h c).any id = nr.any fun h => stB bs h c := by rw [List.any_map]; rfl
            rw [eany]
            refine ite2 (fun t => ⟨_, rfl, _, u5 _ _ e5', ?_, sm_over (sm_trans u3 u5) n5, ?_⟩) (fun t => ⟨sm_trans u3 u5, ?_⟩)
            · rw [List.length_map, List.length_map, sizeLine_eq]
              have h1 : ((lt.take j).filter fun s => nr.any fun h => stB bs h s).length ≤ 24 := Nat.le_trans (List.length_filter_le _ _) (by rw [List.length_take]; exact Nat.le_trans (Nat.min_le_right _ _) ltl)
              omega
            · rw [upd_same, tk, List.filter_append, List.filter_cons, if_pos t]
              simp
            · rw [u5 _ _ e5', tk, List.filter_append, List.filter_cons, if_neg t]
              simp
        rintro G3 ⟨u3, e5'⟩
        rw [List.take_length] at e5'
        have eN : (lt.filter fun s => nr.any fun h => stB bs h s) = nextNear l bs nr kn := by rw [← hLt]; rfl
        rw [eN] at e5'
        have F2 := Fk.next g hb h2n hne
        have k2l := F2.known_len g
        rw [List.length_append] at k2l
        have u03 : Same G0 G3 := sm_trans (sm_trans u1 u2) u3
        refine ⟨_, rfl, _, rfl, N7, D5, _, _, rfl, rfl, u03 _ _ f7, e5', by rw [List.length_map, List.length_map, List.length_map, List.length_map, sizeLine_eq]; omega, fun p np => ?_⟩
        have up : Same G3 (upd G3 p (.lst ((kn.map sg).map V.str ++ ((nextNear l bs nr kn).map sg).map V.str))) := same_upd np
        refine ⟨_, rfl, _, _, rfl, rfl, ?_⟩
        refine ⟨_, ?_, n + 1, nextNear l bs nr kn, kn ++ nextNear l bs nr kn, D5, p, _, _, _, _, rfl, sm_trans (sm_trans t0 u03) up, up _ _ (u03 _ _ f4), up _ _ e5', ?_, F2, rfl⟩
        · rw [if_neg hne, List.length_append]
          by_cases h0 : nextNear l bs nr kn = []
          · rw [if_pos h0, h0]
            simp
          · rw [if_neg h0]
            have : 0 < (nextNear l bs nr kn).length := List.length_pos_iff.mpr h0
            omega
        · rw [upd_same, List.map_append, List.map_append]
end
end NC
namespace NC
open PySem PySem.Spec PyProof.Rows L2
abbrev sLaw : Stmt := topS 32
abbrev nLaw : List Str := ["_law_script", "_law_d", "_law_k", "_law_bar", "_law_turn", "_law_one_it", "_law_two_it", "_law_told", "_law_far_here", "_law_bars_it", "_law_good", "_law_odd", "_law_shuts_it"]
theorem scLaw : FnScope nLaw ["_law_script"] (defScope sLaw) := ⟨rfl, rfl, rfl, by decide +kernel, rfl, by decide +kernel, by decide +kernel⟩
theorem boot_isi : bootBuiltins "isinstance" = some (.builtin "isinstance") := PyProof.Rows.boot_isinstance
theorem tabs_smx {T : List (Addr × Str)} {H H' : Hp} {d : Addr} (t : LamX.Tabs T H) (D : Dr H d) (s : SmX d H H') : LamX.Tabs T H' := fun p hp => by
  obtain ⟨ps, h1, h2, h3⟩ := t p hp
  obtain ⟨c0, ns, i, a, b, e, hd, _⟩ := D
  refine ⟨ps, s _ _ (ne_of h1 hd fun z => by cases z) h1, h2, fun pos cv hc => ?_⟩
  obtain ⟨c, e1, e2⟩ := h3 pos cv hc
  exact ⟨c, e1, s _ _ (ne_of e2 hd fun z => by unfold LamX.CodeO at z; cases z) e2⟩
theorem Dr.ext {H H' : Hp} {d : Addr} (h : Dr H d) (e : LamX.ExtN H H') : Dr H' d := by
  obtain ⟨c, ns, i, a, b, f, h1, h2, h3⟩ := h
  exact ⟨c, ns, i, a, b, f, e _ _ h1 (fun _ z => by cases z), e _ _ h2 (fun _ z => by cases z), h3⟩
theorem HeadC.ext {H H' : Hp} {d c : Addr} (h : HeadC H d c) (e : LamX.ExtN H H') : HeadC H' d c := by
  obtain ⟨r, h⟩ := h
  exact ⟨r, e _ _ h (fun _ z => by cases z)⟩
theorem Dr.cell {H : Hp} {d c : Addr} (h : Dr H d) (hc : HeadC H d c) : ∃ ns : List Int, H c = some (.lst (ns.map V.int)) := by
  obtain ⟨c0, ns, i, a, b, f, h1, h2, h3⟩ := h
  obtain ⟨r, e⟩ := hc
  rw [h1] at e
  have e2 : c0 = c := by
    injection e with e
    injection e with e
    injection e with e _
    injection e
  exact ⟨ns, by rw [← e2]; exact h2⟩
theorem Dr.upd {H : Hp} {d c b : Addr} {o : HO} (h : Dr H d) (hc : HeadC H d c) (n1 : b ≠ d) (n2 : b ≠ c) : Dr (L2.upd H b o) d := by
  obtain ⟨c0, ns, i, a, b2, f, h1, h2, h3⟩ := h
  obtain ⟨r, e⟩ := hc
  rw [h1] at e
  have e2 : c0 = c := by
    injection e with e
    injection e with e
    injection e with e _
    injection e
  exact ⟨c0, ns, i, a, b2, f, by rw [upd_ne (Ne.symm n1)]; exact h1, by rw [e2, upd_ne (Ne.symm n2), ← e2]; exact h2, h3⟩
theorem Dr.head {H : Hp} {d : Addr} (h : Dr H d) : ∃ c, HeadC H d c := by
  obtain ⟨c0, ns, i, a, b2, f, h1, h2, h3⟩ := h
  exact ⟨c0, _, h1⟩
theorem HeadC.upd {H : Hp} {d c b : Addr} {o : HO} (h : HeadC H d c) (n1 : b ≠ d) : HeadC (L2.upd H b o) d c := by
  obtain ⟨r, h⟩ := h
  exact ⟨r, by rw [upd_ne (Ne.symm n1)]; exact h⟩
theorem tabs_upd {T : List (Addr × Str)} {H : Hp} {b : Addr} {xs ys : List V} (t : LamX.Tabs T H) (h : H b = some (.lst xs)) : LamX.Tabs T (L2.upd H b (.lst ys)) := fun p hp => by
  obtain ⟨ps, h1, h2, h3⟩ := t p hp
  refine ⟨ps, by rw [upd_ne (ne_of h1 h fun z => by cases z)]; exact h1, h2, fun pos cv hc => ?_⟩
  obtain ⟨c, e1, e2⟩ := h3 pos cv hc
  exact ⟨c, e1, by rw [upd_ne (ne_of e2 h fun z => by unfold LamX.CodeO at z; cases z)]; exact e2⟩
theorem last_at {xs : List V} {n : Nat} {v : V} (l : xs.length = n + 1) (h : xs[n]? = some v) : atI xs (-1) = some v := by
  obtain ⟨r, z, rfl⟩ : ∃ r z, xs = r ++ [z] := by
    have : xs ≠ [] := fun e => by rw [e] at l; exact absurd l (by simp)
    exact ⟨xs.dropLast, xs.getLast this, (List.dropLast_concat_getLast this).symm⟩
  rw [List.length_append] at l
  have lr : r.length = n := by simpa using l
  rw [atI_last]
  rw [← h, ← lr]
  simp
theorem first_ok {l : List Nat} {bs : List (List Nat)} (h : ∀ b ∈ bs, isBar l b = true) (nd : bs.Nodup) : firstBad l bs = none := List.find?_eq_none.mpr fun i hi => by
  have hl : i < bs.length := by simpa using hi
  have e : bs.getD i [] = bs[i] := by simp [List.getD, hl]
  unfold badAt
  rw [e, h _ (List.getElem_mem hl)]
  have hn : bs[i] ∉ bs.take i := fun hm => by
    obtain ⟨j, hj, ej⟩ := List.getElem_of_mem hm
    have hji : j < i := by rw [List.length_take] at hj; omega
    rw [List.getElem_take] at ej
    have hjl : j < bs.length := by omega
    have ee : bs[j]? = bs[i]? := by rw [List.getElem?_eq_getElem hjl, List.getElem?_eq_getElem hl, ej]
    have := (List.getElem?_inj hjl nd).mp ee
    omega
  simp [hn]
theorem bars_ok {l : List Nat} (g : GoodW l) {bs : List (List Nat)} (h : ∀ b ∈ bs, isBar l b = true) : BarsOk bs := fun b hb => by
  obtain ⟨x, y, rfl, hx, hy, _⟩ := bar_two (h b hb)
  refine ⟨fun c hc => ?_, by show 2 ≤ 100; decide⟩
  rcases List.mem_cons.mp hc with e | e
  · rw [e]; exact sds_asc g hx
  · rw [List.mem_singleton.mp e]; exact sds_asc g hy
theorem prs_pos {l : List Nat} (g : GoodW l) (h : 1 < l.length) : 1 ≤ (prs l l.length).length := by
  have h0 : 0 < l.length := by omega
  have lt : l[0] < l[1] := List.pairwise_iff_getElem.mp g.rise 0 1 h0 h (by omega)
  have m0 : l[0] ∈ l := List.getElem_mem h0
  have m1 : l[1] ∈ l := List.getElem_mem h
  have hm : [l[0], l[1]] ∈ prs l l.length := (prs_mem g _).mpr (by
    show (decide (l[0] ∈ sds l) && (decide (l[1] ∈ sds l) && decide (lwc l[0] < lwc l[1]))) = true
    rw [decide_eq_true (sds_of_small m0), decide_eq_true (sds_of_small m1), lwc_of (g.sm _ m0) (List.mem_cons_self ..), lwc_of (g.sm _ m1) (List.mem_cons_self ..), decide_eq_true lt]
    rfl)
  exact List.length_pos_of_mem hm
/-- what stands beside the draws: the bars' list -/
structure St3 (T : List (Addr × Str)) (d c bA : Addr) (bs : List (List Nat)) (H : Hp) : Prop where
  D : Dr H d
  hc : HeadC H d c
  T : LamX.Tabs T H
  bA : H bA = some (.lst ((bs.map tx).map V.str))
theorem St3.ext {T : List (Addr × Str)} {d c bA : Addr} {bs : List (List Nat)} {H H' : Hp} (s : St3 T d c bA bs H) (e : LamX.ExtN H H') (t : LamX.Tabs T H') : St3 T d c bA bs H' := ⟨s.D.ext e, s.hc.ext e, t, e _ _ s.bA (fun _ z => by cases z)⟩
theorem St3.same {T : List (Addr × Str)} {d c bA : Addr} {bs : List (List Nat)} {H H' : Hp} (s : St3 T d c bA bs H) (e : Same H H') : St3 T d c bA bs H' := s.ext (.of e) (s.T.ext e)
theorem St3.smd {T : List (Addr × Str)} {d c bA : Addr} {bs : List (List Nat)} {H H' : Hp} (s : St3 T d c bA bs H) (n : bA ≠ d) (e : SmD d H H') (D : Dr H' d) : St3 T d c bA bs H' := ⟨D, e.2 _ s.hc, tabs_smx s.T s.D e.1, e.1 _ _ n s.bA⟩
theorem odd_no {l : List Nat} (g : GoodW l) {c : Nat} (hc : c ∉ l) (h1 : 97 ≤ c) (h2 : c ≤ 122) {i : Nat} {v : V} (h : [V.str (Str.ofString ""), .str (Str.ofString "ab"), .str (Str.ofString "1"), .str (Str.ofString " "), .str (Str.ofString "@"), .str (sg c)][i]? = some v) :
    ∃ z, v = .str z ∧ z ∉ (sds l).map sg := by
  have no : ∀ e, (∀ s ∈ sds l, e ≠ s) → sg e ∉ (sds l).map sg := fun e he z => by
    obtain ⟨s, hs, es⟩ := List.mem_map.mp z
    exact he s hs (sg_inj es).symm
  have ln : ∀ x : List Nat, x.length ≠ 1 → tx x ∉ (sds l).map sg := fun x hx z => by
    obtain ⟨s, hs, es⟩ := List.mem_map.mp z
    have := tx_inj (a := [s]) (b := x) es
    rw [← this] at hx
    exact hx rfl
  have sh : ∀ s ∈ sds l, isLt s := fun s hs => sds_lt g hs
  have hm := List.mem_of_getElem? h
  simp only [List.mem_cons, List.not_mem_nil, or_false] at hm
  rcases hm with rfl | rfl | rfl | rfl | rfl | rfl
  · exact ⟨_, rfl, by rw [show Str.ofString "" = tx [] by decide +kernel]; exact ln [] (by decide)⟩
  · exact ⟨_, rfl, by rw [show Str.ofString "ab" = tx [97, 98] by decide +kernel]; exact ln [97, 98] (by decide)⟩
  · exact ⟨_, rfl, by rw [show Str.ofString "1" = sg 49 by decide +kernel]; exact no 49 fun s hs e => by have := sh s hs; unfold isLt at this; omega⟩
  · exact ⟨_, rfl, by rw [show Str.ofString " " = sg 32 by decide +kernel]; exact no 32 fun s hs e => by have := sh s hs; unfold isLt at this; omega⟩
  · exact ⟨_, rfl, by rw [show Str.ofString "@" = sg 64 by decide +kernel]; exact no 64 fun s hs e => by have := sh s hs; unfold isLt at this; omega⟩
  · refine ⟨_, rfl, no c fun s hs e => ?_⟩
    subst e
    rcases sds_shape g hs with z | z
    · exact hc z.2.2
    · omega
/-- how a keyword call of chain binds -/
def gKw {α : Type} (_ ws : List α) : List α := match ws with
  | [b, a, t, o] => [a, b, o, t]
  | _ => []
/-- the law's own helpers -/
structure Hlp (K : PySem.W.Frag) (mg : Str → Option Value) (fStart fDraw fOf fLet fShuts fOth fPairs fWord fRef fStrg fStr fFar fCh : Addr) (dStart dDraw dOf dLet dShuts dOth dPairs dWord dRef dStrg dStr dFar dCh : FuncData) : Prop where
  start : DF K mg "_law_start" sStart ["_law_script"] fStart dStart
  draw : DF K mg "_law_draw" sDraw ["_law_d", "_law_many"] fDraw dDraw
  of : DF K mg "_law_of" sOf ["_law_d", "_law_some"] fOf dOf
  letters : DF K mg "_law_letters" sLetters [] fLet dLet
  shuts : DF K mg "_law_shuts" sShuts ["_law_d", "_law_most"] fShuts dShuts
  oth : DF K mg "_law_other" sOth ["_law_side"] fOth dOth
  pairs : DF K mg "_law_pairs" sPairs ["_law_shuts_it"] fPairs dPairs
  word : DF K mg "_law_word" sWord ["_law_ask"] fWord dWord
  ref : DF K mg "_law_refused" sRef ["_law_ask", "_law_due"] fRef dRef
  strg : DF K mg "_law_strange" sStrange ["_law_shuts_it"] fStrg dStrg
  str : DF K mg "_law_straight" sStr ["_law_bars_it", "_law_one_it", "_law_two_it"] fStr dStr
  far : DF K mg "_law_far" sFar ["_law_shuts_it", "_law_bars_it", "_law_one_it", "_law_two_it"] fFar dFar
  ch : DF K mg "chain" sChain ["walls", "bars", "one", "two"] fCh dCh
  kw : KBn K dCh ["walls", "bars", "one", "two"] 0 ["bars", "walls", "two", "one"] gKw gKw
  many : mg "any" = none
/-- the families of refusals -/
structure EX (K : PySem.W.Frag) (mg : Str → Option Value) (CH CM CN CS : Addr) : Prop where
  gM : mg "Missing" = some (.ref CM)
  gN : mg "NothingLeft" = some (.ref CN)
  s : XfC K CS
  ms : PySem.W.exmAny K (.ref CS) (fam CH CM CN) = some true
/-- the name of the law's lambdas -/
def lamN (c : Value) : Str := (envOfC "law" (defScope sLaw) 0 0 c).qual ++ "<lambda>"
def spLaw (K : PySem.W.Frag) (T : List (Addr × Str)) : Sp := fun vs H Q _ => ∃ (a : Addr) (ns : List Int), vs = [.ref a] ∧ SqL K H a (ns.map V.int) ∧ LamX.Tabs T H ∧ ∀ H', Q (.bl true) H'
theorem passF {X : Cx} : Passes (L2.CX X.prog X.w) X E0 := fun _ _ _ _ _ _ _ h => by
  obtain ⟨_, _, _, _, _, _, _, _, _, _, _, _, z⟩ := h
  exact z.elim
section
variable {P : Program} {w : World} {K : PySem.W.Frag} {mg : Str → Option Value} {base : Heap} {tw : Tok} {fOther fSides fIsW fIsB fCW fCB fCS fSt fRe : Addr} {dOther dSides dIsW dIsB dCW dCB dCS dSt dRe : FuncData} {CH iH CB iB CS iS CM CN : Addr} {eH eB eS : FuncData}
    {fStart fDraw fOf fLet fShuts fOth fPairs fWord fRef fStrg fStr fFar fCh : Addr} {dStart dDraw dOf dLet dShuts dOth dPairs dWord dRef dStrg dStr dFar dCh : FuncData}
set_option maxHeartbeats 2000000 in
theorem ok_law {f c PT : Addr} {kV doc pm ct oc : Value} {an od : Option Addr} {osl : Array (Option Value)} {k : Nat}
    (lk : K.lookup f = some ⟨oc, od, .func (PySem.W.fnOf "law" "law" (defArgs sLaw) (defBody sLaw) (defScope sLaw) .none kV doc pm an (.ref c) ct), osl⟩) (hcd : PySem.W.codeIn K (.ref c) "law" = true) (TB : LamX.TabB base mg c PT) (X : EX K mg CH CM CN CS)
    (T : Txt8 K mg tw fOther fSides fIsW fIsB fCW fCB fCS fSt fRe dOther dSides dIsW dIsB dCW dCB dCS dSt dRe CH iH CB iB CS iS eH eB eS)
    (L : Hlp K mg fStart fDraw fOf fLet fShuts fOth fPairs fWord fRef fStrg fStr fFar fCh dStart dDraw dOf dLet dShuts dOth dPairs dWord dRef dStrg dStr dFar dCh) :
    FnOk P w K mg base CX0 (k + 9) f (PySem.W.fnOf "law" "law" (defArgs sLaw) (defBody sLaw) (defScope sLaw) .none kV doc pm an (.ref c) ct) ["_law_script"] (spLaw K [(PT, lamN (.ref c))]) := by
  have GC : FnOk P w K mg base (L2.CX P w) (k + 5) fCh dCh ["walls", "bars", "one", "two"] (spChain K CS) := ok_chain L.ch.F T
  have GSt : FnOk P w K mg base CX0 (k + 1) fStart dStart ["_law_script"] (spStart K) := ok_start T.B L.start.F
  have GD : FnOk P w K mg base CX0 (k + 1) fDraw dDraw ["_law_d", "_law_many"] spDraw := ok_draw T.B L.draw.F
  have GO : FnOk P w K mg base CX0 (k + 2) fOf dOf ["_law_d", "_law_some"] (spOf K) := ok_of T.B L.of.F L.draw
  have GSh : FnOk P w K mg base CX0 (k + 2) fShuts dShuts ["_law_d", "_law_most"] spShuts := ok_shuts T.B L.shuts.F L.draw L.letters
  have GP : FnOk P w K mg base CX0 (k + 1) fPairs dPairs ["_law_shuts_it"] spPairs := ok_pairs T.B L.pairs.F
  have GX : FnOk P w K mg base CX0 (k + 2) fStrg dStrg ["_law_shuts_it"] spStrange := ok_strange L.strg.F L.letters
  have GT : FnOk P w K mg base CX0 (k + 2) fStr dStr ["_law_bars_it", "_law_one_it", "_law_two_it"] (spStr K) := ok_str L.str.F L.oth
  have GF : FnOk P w K mg base CX0 (k + 3) fFar dFar ["_law_shuts_it", "_law_bars_it", "_law_one_it", "_law_two_it"] (spFar K) := ok_far T.B L.many L.far.F L.str L.oth
  have UR : Uses P w K mg base (k + 5) (k + 8) fRef dRef ["_law_ask", "_law_due"] (spRef K CH CM CN) := ok_ref L.ref.F L.word T.he.gC X.gM X.gN
  refine fn_of lk hcd scLaw (fun vs H Q E h => ?_) (fun A outer s H vs Q E hr h => ?_)
  · obtain ⟨a, ns, rfl, _⟩ := h
    rfl
  · obtain ⟨a, ns, rfl, hS, hT, q⟩ := h
    have r1 : Room (k + 1) _ := hr.mono (by omega)
    have r2 : Room (k + 2) _ := hr.mono (by omega)
    have r3 : Room (k + 3) _ := hr.mono (by omega)
    have r5 : Room (k + 5) _ := hr.mono (by omega)
    have hu := hr.units
    have B := T.B
    have nd := scLaw.nd
    refine ⟨_, PSs.nox (pss_cons (ps_set (i := 1) nd rfl (.inl rfl) (pe_call GSt r1 rfl L.start.g L.start.F.kp L.start.b .nil pass0 (pa_cons (pv 0) pa_nil)))
      (pss_cons (ps_set (i := 12) nd rfl (.inr rfl) (pe_call GSh r2 rfl L.shuts.g L.shuts.F.kp L.shuts.b .nil pass0 (pa_cons (pv 1) (pa_cons (pe_op op_add pe_int (pe_call GD r1 rfl L.draw.g L.draw.F.kp L.draw.b .nil pass0 (pa_cons (pv 1) (pa_cons pe_int pa_nil)))) pa_nil))))
      (pss_cons (ps_set (i := 9) nd rfl (.inr rfl) (pe_lst pa_nil))
      (C8.pss_cut (ps_for PassesOwn.never rfl (pi_range1 (by rfl) B.range (pa_cons (pe_ifExp (pt_cmpR op_gt (pe_callB call_len_str (by rfl) B.len PySem.boot_len (pa_cons (pv 12) pa_nil)) pe_int (nomark _)) (pe_call GD r1 rfl L.draw.g L.draw.F.kp L.draw.b .nil pass0 (pa_cons (pv 1) (pa_cons pe_int pa_nil))) pe_int) pa_nil)) (pg_name (i := 2) nd rfl (.inl rfl))
        (pss_cons (ps_set (i := 3) nd rfl (.inl rfl) (pe_call GO r2 rfl L.of.g L.of.F.kp L.of.b .nil pass0 (pa_cons (pv 1) (pa_cons (pe_call GP r1 rfl L.pairs.g L.pairs.F.kp L.pairs.b .nil pass0 (pa_cons (pv 12) pa_nil)) pa_nil))))
        (pss_one (ps_if (pt_cmpR op_notIn_seq (pv 3) (pv 9) (by rfl)) (pss_one (ps_expr (pe_bm PySem.F.plainAttrs_list PySem.F.slot_list_append PySem.F.type_list_append mt_append (pv 9) (pa_cons (pv 3) pa_nil)))) pss_nil))))
      (pss_cons (ps_for PassesOwn.never rfl (pi_range1 (by rfl) B.range (pa_cons pe_int pa_nil)) (pg_name (i := 4) nd rfl (.inl rfl))
        (pss_cons (ps_set (i := 5) nd rfl (.inl rfl) (pe_call GO r2 rfl L.of.g L.of.F.kp L.of.b .nil pass0 (pa_cons (pv 1) (pa_cons (pe_lst (pa_cons (pe_call GO r2 rfl L.of.g L.of.F.kp L.of.b .nil pass0 (pa_cons (pv 1) (pa_cons (pv 12) pa_nil))) (pa_cons (pe_upper (pe_call GO r2 rfl L.of.g L.of.F.kp L.of.b .nil pass0 (pa_cons (pv 1) (pa_cons (pv 12) pa_nil)))) pa_nil))) pa_nil))))
        (pss_cons (ps_set (i := 6) nd rfl (.inl rfl) (pe_call GO r2 rfl L.of.g L.of.F.kp L.of.b .nil pass0 (pa_cons (pv 1) (pa_cons (pe_lst (pa_cons (pe_call GO r2 rfl L.of.g L.of.F.kp L.of.b .nil pass0 (pa_cons (pv 1) (pa_cons (pv 12) pa_nil))) (pa_cons (pe_upper (pe_call GO r2 rfl L.of.g L.of.F.kp L.of.b .nil pass0 (pa_cons (pv 1) (pa_cons (pv 12) pa_nil)))) pa_nil))) pa_nil))))
        (pss_cons (ps_set (i := 7) nd rfl (.inr rfl) (pe_call (E := E0) GC r5 rfl L.ch.g L.ch.F.kp L.ch.b .nil passF (pa_cons (pv 12) (pa_cons (pe_callTy call_list_of (by rfl) B.list (by decide +kernel) (pa_cons (pv 9) pa_nil)) (pa_cons (pv 5) (pa_cons (pv 6) pa_nil))))))
        (pss_cons (ps_set (i := 8) nd rfl (.inl rfl) (pe_call GF r3 rfl L.far.g L.far.F.kp L.far.b .nil pass0 (pa_cons (pv 12) (pa_cons (pv 9) (pa_cons (pv 5) (pa_cons (pv 6) pa_nil))))))
        (pss_cons (ps_if (pt_cmp (pc_isN (pv 8))) (pss_cons (ps_if (pt_cmpR op_notN (pv 7) pe_non (nomark _)) (pss_one (ps_ret pe_bl)) pss_nil) (pss_one ps_continue)) pss_nil)
        (pss_cons (ps_if (PW.pt (pw_or (pt_not (pt_val (pe_callB call_isi (by rfl) B.isinstance boot_isi (pa_cons (pv 7) (pa_cons (pe_bltn (v := .ty "list") (by rfl) B.list (by decide +kernel) rfl) pa_nil)))))
            (pw_or (pt_cmpR op_ne (pe_callB call_len_seq (by rfl) B.len PySem.boot_len (pa_cons (pv 7) pa_nil)) (pe_op op_add (pv 8) pe_int) (nomark _))
            (pw_or (pt_cmpR op_ne (pe_ix ix_list (pv 7) pe_int (fun _ _ => rfl)) (pv 5) (nomark _))
            (pw_or1 (pt_cmpR op_ne (pe_ix ix_list (pv 7) (pe_un un_neg pe_int) (fun _ _ => rfl)) (pv 6) (nomark _))))))) (pss_one (ps_ret pe_bl)) pss_nil)
        (pss_one (ps_if (pt_not (pt_val (pe_callB (cr_all rfl) (by rfl) B.all (by decide +kernel) (pa_cons (pe_lc (own := [("_law_k", 2)]) (g := gName 2) (tt := tYes) (te := tCall (spStr K) [] E0 (tCons (tVar 9) (tCons (tOp (rIxL K) (tVar 7) (tVar 2)) (tCons (tOp (rIxL K) (tVar 7) (tOp (rI0 fun i j => .int (i + j)) (tVar 2) (tC (.int 1)))) tNil)))) rfl nd
            (pi_range1 (by rfl) B.range (pa_cons (pv 8) pa_nil)) (blkOk_by (N := nLaw) (sc := defScope sLaw) (by decide +kernel)) (fun _ _ _ _ _ => pg_name (i := 2) nd rfl (Or.inl rfl)) (fun _ _ _ _ _ => pts_nil)
            (fun _ _ _ _ _ => pe_call GT r2 rfl L.str.g L.str.F.kp L.str.b .nil pass0 (pa_cons (pv 9) (pa_cons (pe_ix ix_list (pv 7) (pv 2) (fun _ _ => rfl)) (pa_cons (pe_ix ix_list (pv 7) (pe_op op_add (pv 2) pe_int) (fun _ _ => rfl)) pa_nil))))) pa_nil)))) (pss_one (ps_ret pe_bl)) pss_nil)))))))))
      (pss_cons (ps_set (i := 11) nd rfl (.inr rfl) (pe_call GO r2 rfl L.of.g L.of.F.kp L.of.b .nil pass0 (pa_cons (pv 1) (pa_cons (pe_lst (pa_cons pe_str (pa_cons pe_str (pa_cons pe_str (pa_cons pe_str (pa_cons pe_str (pa_cons (pe_call GX r2 rfl L.strg.g L.strg.F.kp L.strg.b .nil pass0 (pa_cons (pv 12) pa_nil)) pa_nil))))))) pa_nil))))
      (pss_cons (ps_set (i := 10) nd rfl (.inr rfl) (pe_upper (pe_ix ix_str (pv 12) pe_int (fun _ _ => rfl))))
      (pss_one (ps_ret (pe_and
        (pe_lamU (T := [(PT, lamN (.ref c))]) (vs0 := [.str "badside"]) (t := fun E => tCall (spChain K CS) [] E (tCons (tVar 12) (tCons (tVar 9) (tCons (tVar 11) (tCons (tVar 10) tNil))))) UR hr rfl L.ref.g L.ref.F.kp L.ref.b rfl (pa_cons pe_str pa_nil) TB rfl (List.mem_cons_self ..) (fun p hp _ => by rw [List.mem_singleton.mp hp]; rfl)
          (LamX.lamS_by (sc := defScope sLaw) (by decide +kernel)) rfl (fun _ _ _ _ _ => rfl)
          (fun A out s H E f c' hr2 => pe_call GC hr2 rfl L.ch.g L.ch.F.kp L.ch.b .nil (passes_call (takes_of rfl rfl rfl rfl) (fun _ _ _ _ h => h)) (pa_cons (pv 12) (pa_cons (pv 9) (pa_cons (pv 11) (pa_cons (pv 10) pa_nil))))) rfl)
        (pe_one (pe_lamU (T := [(PT, lamN (.ref c))]) (vs0 := [.str "badside"]) (t := fun E => tCallN 0 4 (spChain K CS) gKw E tNil (tCons (tVar 9) (tCons (tVar 12) (tCons (tVar 11) (tCons (tVar 10) tNil))))) UR hr rfl L.ref.g L.ref.F.kp L.ref.b rfl (pa_cons pe_str pa_nil) TB rfl (List.mem_cons_self ..) (fun p hp _ => by rw [List.mem_singleton.mp hp]; rfl)
          (LamX.lamS_by (sc := defScope sLaw) (by decide +kernel)) rfl (fun _ _ _ _ _ => rfl)
          (fun A out s H E f c' hr2 => pe_callN0 (ks := ["bars", "walls", "two", "one"]) GC hr2 rfl L.ch.g L.ch.F.kp L.kw (passes_call (takes_of rfl rfl rfl rfl) (fun _ _ _ _ h => h)) (pk_cons (pv 9) (pk_cons (pv 12) (pk_cons (pv 11) (pk_cons (pv 10) pk_nil))))) rfl)))))))))))), ?_⟩
    refine ⟨_, rfl, a, ns, rfl, hS, fun H0 d s0 nd0 D0 => ?_⟩
    refine ⟨_, rfl, _, rfl, d, 9, rfl, D0, by decide, by decide, fun H1 n1 s1 D1 n0 n9 => ⟨_, _, rfl, rfl, d, _, rfl, D1, by omega, by omega, fun H2 l s2 D2 g => ?_⟩⟩
    have T2 := tabs_smx (tabs_smx (hT.ext s0) D0 s1.1) D1 s2.1
    have hz : (tx l).length ≤ sizeLine := by rw [tx_len, sizeLine_eq]; have := g.hi; omega
    have hl12 := g.hi
    refine ⟨Nat.zero_le _, fun bA nbA => ?_⟩
    obtain ⟨c0, hc2⟩ := D2.head
    obtain ⟨ns2, hcell⟩ := D2.cell hc2
    obtain ⟨r2', hd2⟩ := id hc2
    have nbd : bA ≠ d := Ne.symm (ne_of_none hd2 nbA)
    have nbc : bA ≠ c0 := Ne.symm (ne_of_none hcell nbA)
    have S3 : St3 [(PT, lamN (.ref c))] d c0 bA [] (upd H2 bA (.lst [])) := ⟨D2.same (same_upd nbA), hc2.upd nbd, T2.ext (same_upd nbA), upd_same⟩
    generalize (upd H2 bA (.lst [])) = H3 at S3 ⊢
    refine ⟨fun σ H' => ∃ (y2 y3 : Option V) (bs : List (List Nat)), σ = [some (.ref a), some (.ref d), y2, y3, none, none, none, none, none, some (.ref bA), none, none, some (.str (tx l))] ∧ St3 [(PT, lamN (.ref c))] d c0 bA bs H' ∧ (∀ b ∈ bs, isBar l b = true) ∧ bs.Nodup ∧ bs.length ≤ 16, ?_, ?_⟩
    · refine ⟨_, rfl, _, rfl, hz, _, _, rfl, rfl, _, rfl, ite2 (fun t => ?_) (fun t => ?_)⟩
      · have hl1 : 1 < l.length := by
          have := of_decide_eq_true t
          rw [tx_len] at this
          omega
        refine ⟨_, rfl, d, 16, rfl, S3.D, by decide, by decide, fun H4 m s4 D4 m0 m16 => ⟨m, rfl, by omega, by omega, ?_⟩⟩
        have S4 := S3.smd nbd s4 D4
        obtain ⟨mm, rfl⟩ := Int.eq_ofNat_of_zero_le m0
        rw [show ((mm : Nat) : Int).toNat = mm from Int.toNat_natCast _]
        refine for_it walk_range (fun i σ H' => ∃ (y2 y3 : Option V) (bs : List (List Nat)), σ = [some (.ref a), some (.ref d), y2, y3, none, none, none, none, none, some (.ref bA), none, none, some (.str (tx l))] ∧ St3 [(PT, lamN (.ref c))] d c0 bA bs H' ∧ (∀ b ∈ bs, isBar l b = true) ∧ bs.Nodup ∧ bs.length ≤ i)
          ⟨_, _, [], rfl, S4, (fun b h => absurd h (by simp)), List.nodup_nil, Nat.le_refl _⟩ (fun _ _ _ _ _ => trivial) ?_ ?_
        · rintro i v σ Ha Hb hi ⟨y2, y3, bs, rfl, Sa, hb, hnd, hbl⟩ ⟨rfl, rfl⟩
          have pl := prs_len l l.length
          have pl2 : 4 * l.length * l.length ≤ 4 * 12 * 12 := Nat.mul_le_mul (Nat.mul_le_mul_left _ hl12) hl12
          refine ⟨_, rfl, _, rfl, l, rfl, g, fun H5 pA s5 npA epA => ?_⟩
          have S5 := Sa.same s5
          have npd : pA ≠ d := by
            obtain ⟨r5, hd5⟩ := Sa.hc
            exact Ne.symm (ne_of_none hd5 npA)
          refine ⟨d, _, rfl, S5.D, .inl ⟨pA, _, rfl, npd, SqL.of epA, by rw [List.length_map, List.length_map]; exact prs_pos g hl1, by rw [List.length_map, List.length_map]; omega, fun H6 v j s6 D6 hv => ?_⟩⟩
          rw [List.getElem?_map, List.getElem?_map] at hv
          obtain ⟨z, hz1, rfl⟩ := Option.map_eq_some_iff.mp hv
          obtain ⟨b, hb1, rfl⟩ := Option.map_eq_some_iff.mp hz1
          have hbar : isBar l b = true := (prs_mem g b).mp (List.mem_of_getElem? hb1)
          have S6 := S5.smd nbd s6 D6
          refine ⟨_, rfl, _, rfl, bA, _, rfl, .inl (SqL.of S6.bA), rfl, flat_str _, _, rfl, ?_⟩
          show if (!inV (.str (tx b)) ((bs.map tx).map V.str)) = true then _ else _
          rw [inV_tx]
          refine ite2 (fun t => ?_) (fun t => ?_)
          · have hn : b ∉ bs := by simpa using t
            refine ⟨_, rfl, .inl ⟨rfl, _, SqL.of S6.bA⟩, _, rfl, bA, _, _, rfl, rfl, S6.bA, by rw [List.length_map, List.length_map, sizeLine_eq]; omega, ?_⟩
            refine ⟨_, _, bs ++ [b], rfl, ⟨S6.D.upd S6.hc nbd nbc, S6.hc.upd nbd, tabs_upd S6.T S6.bA, ?_⟩, fun e he => ?_, nd_snoc hnd hn, ?_⟩
            · rw [upd_same, List.map_append, List.map_append]
              rfl
            · rcases List.mem_append.mp he with z | z
              · exact hb e z
              · rw [List.mem_singleton.mp z]; exact hbar
            · rw [List.length_append]
              show bs.length + 1 ≤ i + 1
              omega
          · exact ⟨_, _, bs, rfl, S6, hb, hnd, by omega⟩
        · rintro σ Ha ⟨y2, y3, bs, rfl, Sa, hb, hnd, hbl⟩
          exact ⟨_, _, bs, rfl, Sa, hb, hnd, by omega⟩
      · refine ⟨0, rfl, by decide, by decide, ?_⟩
        rw [show (0 : Int).toNat = 0 from rfl]
        refine for_it walk_range (fun i σ H' => σ = [some (.ref a), some (.ref d), none, none, none, none, none, none, none, some (.ref bA), none, none, some (.str (tx l))] ∧ St3 [(PT, lamN (.ref c))] d c0 bA [] H') ⟨rfl, S3⟩ (fun _ _ _ _ _ => trivial) (fun i v σ Ha Hb hi => absurd hi (Nat.not_lt_zero _)) ?_
        rintro σ Ha ⟨rfl, Sa⟩
        exact ⟨_, _, [], rfl, Sa, (fun b h => absurd h (by simp)), List.nodup_nil, Nat.zero_le _⟩
    rintro σ H4 ⟨y2, y3, bs, rfl, S4, hb, hnd, hbl⟩
    have fok := first_ok hb hnd
    have bok := bars_ok g hb
    refine ⟨6, rfl, by decide, by decide, ?_⟩
    rw [show (6 : Int).toNat = 6 from rfl]
    refine for_it walk_range (fun i σ H' => ∃ (y4 y5 y6 y7 y8 : Option V), σ = [some (.ref a), some (.ref d), y2, y3, y4, y5, y6, y7, y8, some (.ref bA), none, none, some (.str (tx l))] ∧ St3 [(PT, lamN (.ref c))] d c0 bA bs H') ⟨_, _, _, _, _, rfl, S4⟩ (fun _ _ _ _ _ => trivial) ?_ ?_
    · rintro i v σ Ha Hb hi ⟨y4, y5, y6, y7, y8, rfl, Sa⟩ ⟨rfl, rfl⟩
      have dn : ∀ {H' : Hp} {p : Addr}, Dr H' d → H' p = none → p ≠ d := fun {H' p} h n => by
        obtain ⟨c, ns, i, a, b, e, hd, _⟩ := h
        exact Ne.symm (ne_of_none hd n)
      have up1 : ∀ {y : Nat}, y ∈ l → Txt.upper (sg y) = sg (upc y) := fun {y} hy => upper_tx (l := [y]) (fun e he => by rw [List.mem_singleton.mp he]; exact g.asc y hy)
      have pick : ∀ {x y j : Nat} {v : V}, x ∈ l → y ∈ l → [V.str (sg x), .str (sg (upc y))][j]? = some v → ∃ e, v = .str (sg e) ∧ e ∈ sds l := fun {x y j v} hx hy hv => by
        have hm := List.mem_of_getElem? hv
        simp only [List.mem_cons, List.not_mem_nil, or_false] at hm
        rcases hm with rfl | rfl
        · exact ⟨x, rfl, sds_of_small hx⟩
        · exact ⟨upc y, rfl, sds_of g hy (by simp)⟩
      refine ⟨_, rfl, _, rfl, _, rfl, d, _, rfl, Sa.D, .inr ⟨l, rfl, g.lo, by omega, fun H5 x1 s5 D5 hx1 => ?_⟩⟩
      have S5 := Sa.smd nbd s5 D5
      refine ⟨_, rfl, _, rfl, d, _, rfl, S5.D, .inr ⟨l, rfl, g.lo, by omega, fun H6 x2 s6 D6 hx2 => ?_⟩⟩
      have S6 := S5.smd nbd s6 D6
      refine ⟨⟨_, rfl⟩, _, rfl, rfl, by show 1 ≤ 5592405; decide, by show 2 ≤ sizeLine; decide, fun p1 np1 => ?_⟩
      rw [up1 hx2]
      have S7 := S6.same (same_upd (o := .lst [.str (sg x1), .str (sg (upc x2))]) np1)
      refine ⟨d, _, rfl, S7.D, .inl ⟨p1, _, rfl, dn S6.D np1, SqL.of upd_same, by show 1 ≤ 2; decide, by show 2 ≤ 1000; decide, fun H8 v j s8 D8 hv => ?_⟩⟩
      obtain ⟨one, rfl, h1⟩ := pick hx1 hx2 hv
      have S8 := S7.smd nbd s8 D8
      refine ⟨_, rfl, _, rfl, _, rfl, d, _, rfl, S8.D, .inr ⟨l, rfl, g.lo, by omega, fun H9 x3 s9 D9 hx3 => ?_⟩⟩
      have S9 := S8.smd nbd s9 D9
      refine ⟨_, rfl, _, rfl, d, _, rfl, S9.D, .inr ⟨l, rfl, g.lo, by omega, fun H10 x4 s10 D10 hx4 => ?_⟩⟩
      have S10 := S9.smd nbd s10 D10
      refine ⟨⟨_, rfl⟩, _, rfl, rfl, by show 1 ≤ 5592405; decide, by show 2 ≤ sizeLine; decide, fun p2 np2 => ?_⟩
      rw [up1 hx4]
      have S11 := S10.same (same_upd (o := .lst [.str (sg x3), .str (sg (upc x4))]) np2)
      refine ⟨d, _, rfl, S11.D, .inl ⟨p2, _, rfl, dn S10.D np2, SqL.of upd_same, by show 1 ≤ 2; decide, by show 2 ≤ 1000; decide, fun H12 v j s12 D12 hv => ?_⟩⟩
      obtain ⟨two, rfl, h2⟩ := pick hx3 hx4 hv
      have S12 := S11.smd nbd s12 D12
      clear s12 s10 s9 s8 s6 s5
      -- chain
      refine ⟨_, rfl, _, rfl, bA, _, rfl, .inl (SqL.of S12.bA), fun lA nlA => ?_⟩
      refine ⟨_, rfl, _, rfl, l, lA, bs, sg one, sg two, rfl, g, bok, by omega, .inl (SqL.of upd_same), fok, fun z => z.elim (fun z => absurd (mem_sg.mpr h1) z) (fun z => absurd (mem_sg.mpr h2) z), fun one' two' e1 e2 _ _ => ?_⟩
      obtain rfl := sg_inj e1
      obtain rfl := sg_inj e2
      have S13 := S12.same (same_upd (o := .lst ((bs.map tx).map V.str)) nlA)
      refine ⟨fun H14 s14 hno => ?_, fun H14 p path n s14 np ep dst pl nle p0 pn lk2 => ?_⟩
      · have S14 := S13.same s14
        refine ⟨_, rfl, _, rfl, _, rfl, _, rfl, l, bA, bs, one, two, rfl, g, hb, SqL.of S14.bA, h1, h2, fun H15 n s15 d15 => absurd d15.1 (hno n), fun H15 s15 _ => ?_⟩
        refine ⟨_, rfl, _, rfl, iteT ?_⟩
        refine ⟨_, rfl, rfl, _, rfl, iteF ?_⟩
        exact ⟨_, _, _, _, _, rfl, S14.same s15⟩
      · have S14 := S13.same s14
        refine ⟨_, rfl, _, rfl, _, rfl, _, rfl, l, bA, bs, one, two, rfl, g, hb, SqL.of S14.bA, h1, h2, fun H15 n2 s15 d15 => ?_, fun H15 s15 hno => absurd dst.1 (hno n)⟩
        obtain rfl : n2 = n := d15.uniq dst
        have S15 := S14.same s15
        have ep15 := s15 _ _ ep
        have lenP : ((path.map sg).map V.str).length = n2 + 1 := by rw [List.length_map, List.length_map, pl]
        have at_ : ∀ {i e : Nat}, path[i]? = some e → ((path.map sg).map V.str)[i]? = some (.str (sg e)) := fun {i e} h => by rw [List.getElem?_map, List.getElem?_map, h]; rfl
        refine ⟨_, rfl, _, rfl, ite2 (fun z => absurd z (by simp)) (fun _ => ?_)⟩
        refine ⟨_, rfl, _, _, .type "list", .type "list", true, rfl, .ty _, .base (.lst ep15), kit_ty (by decide +kernel), _, rfl, ite2 (fun z => absurd z (by decide)) (fun _ => ?_)⟩
        refine ⟨_, rfl, p, _, rfl, .inl (SqL.of ep15), _, rfl, _, _, rfl, rfl, rfl, _, rfl, ite2 (fun z => ?_) (fun _ => ?_)⟩
        · exfalso
          rw [lenP] at z
          simp at z
        refine ⟨_, rfl, p, _, 0, .str (sg one), rfl, rfl, SqL.of ep15, atI_nat (j := 0) (at_ p0), _, rfl, rfl, _, rfl, ite2 (fun z => absurd z (by simp)) (fun _ => ?_)⟩
        refine ⟨_, rfl, _, rfl, p, _, _, .str (sg two), rfl, rfl, SqL.of ep15, last_at lenP (at_ pn), _, rfl, rfl, _, rfl, ite2 (fun z => absurd z (by simp)) (fun _ => ?_)⟩
        -- all
        refine ⟨_, rfl, _, rfl, by omega, by omega, ?_⟩
        rw [show ((n2 : Nat) : Int).toNat = n2 from Int.toNat_natCast _]
        intro Dc nDc
        refine lc_it walk_range (fun u H' => Same H15 H' ∧ H' Dc = some (.lst ((List.replicate u true).map V.bl))) ⟨same_upd nDc, upd_same⟩ (fun _ _ _ _ => trivial) ?_ ?_
        · rintro u v G5 G6 hu ⟨u5, ea⟩ ⟨rfl, rfl⟩
          have hu1 : u < path.length := by omega
          have hu2 : u + 1 < path.length := by omega
          have g1 : path[u]? = some path[u] := List.getElem?_eq_getElem hu1
          have g2 : path[u + 1]? = some path[u + 1] := List.getElem?_eq_getElem hu2
          have hadj : path[u + 1] ∈ adjOf bs path[u] := lk2.get g1 g2
          have hlt := sds_lt g (adj_mem g hb hadj)
          refine ⟨rfl, yes_i ⟨_, rfl, _, rfl, _, rfl, p, _, _, _, rfl, rfl, SqL.of (u5 _ _ ep15), (by rw [show (0 + (u : Int)) = ((u : Nat) : Int) by omega]; exact atI_nat (at_ g1)), _, rfl, _, rfl, _, _, rfl, rfl, p, _, _, _, rfl, rfl, SqL.of (u5 _ _ ep15), (by rw [show (0 + (u : Int) + 1) = ((u + 1 : Nat) : Int) by omega]; exact atI_nat (at_ g2)), bA, bs, _, _, rfl, SqL.of (u5 _ _ S15.bA), hlt, ?_⟩⟩
          rw [(st_adj g hb hlt).mpr hadj]
          refine ⟨_, ea, by rw [List.length_map, List.length_replicate, sizeLine_eq]; omega, sm_over u5 nDc, ?_⟩
          rw [upd_same, List.replicate_succ', List.map_append]
          rfl
        · rintro G5 ⟨u5, ea⟩
          refine ⟨_, _, rfl, SqL.of ea, _, rfl, ?_⟩
          rw [show (List.replicate n2 true).all id = true by simp]
          refine ite2 (fun z => absurd z (by decide)) (fun _ => ?_)
          exact ⟨_, _, _, _, _, rfl, S15.same u5⟩
    · rintro σ H5 ⟨y4, y5, y6, y7, y8, rfl, S5⟩
      refine ⟨_, rfl, _, rfl, l, rfl, g, fun H6 e6 s6 he1 he2 he3 => ⟨by show 6 ≤ sizeLine; decide, fun p np => ?_⟩⟩
      have S6 := S5.same s6
      have npd : p ≠ d := by
        obtain ⟨r6, hd6⟩ := S6.hc
        exact Ne.symm (ne_of_none hd6 np)
      have S7 := S6.same (same_upd (o := .lst [V.str (Str.ofString ""), .str (Str.ofString "ab"), .str (Str.ofString "1"), .str (Str.ofString " "), .str (Str.ofString "@"), .str (sg e6)]) np)
      refine ⟨d, _, rfl, S7.D, .inl ⟨p, _, rfl, npd, SqL.of upd_same, by show 1 ≤ 6; decide, by show 6 ≤ 1000; decide, fun H8 v j s8 D8 hv => ?_⟩⟩
      obtain ⟨z, rfl, hzn⟩ := odd_no g he1 he2 he3 hv
      have S8 := S7.smd nbd s8 D8
      have h0 : 0 < l.length := g.lo
      have at0 : atI (tx l).cps.toList 0 = some l[0] := by
        rw [tx_list]
        exact atI_nat (j := 0) (List.getElem?_eq_getElem h0)
      refine ⟨_, rfl, _, _, _, rfl, rfl, hz, at0, ⟨_, rfl⟩, _, rfl, rfl, by show 1 ≤ 5592405; decide, ?_⟩
      have okB : okS "badside" := by
        rw [show (Str.ofString "badside") = tx [98, 97, 100, 115, 105, 100, 101] by decide +kernel]
        exact okS_tx (by decide)
      refine ⟨S8.T, fun f1 H9 e9 T9 => ?_⟩
      have S9 := S8.ext e9 T9
      refine ⟨"badside", fun cls dd G => ∃ x, cls = .ref CS ∧ dd = some x ∧ Same H9 G ∧ G x = some (.xd [("word", .str "badside")]), rfl, okB, ?_, fun E R hE => ?_⟩
      · rintro cls dd G ⟨x, rfl, rfl, sG, eG⟩
        refine ⟨X.ms, CS, x, _, _, rfl, X.s, T.xs.hw, rfl, eG, rfl, _, rfl, okB, fun G' sG' => ?_⟩
        rw [decide_eq_true rfl]
        refine ⟨true, rfl, iteT ?_⟩
        have S10 := S9.same (sm_trans sG sG')
        refine ⟨S10.T, fun f2 H11 e11 T11 => ?_⟩
        have S11 := S10.ext e11 T11
        refine ⟨"badside", fun cls dd G => ∃ x, cls = .ref CS ∧ dd = some x ∧ Same H11 G ∧ G x = some (.xd [("word", .str "badside")]), rfl, okB, ?_, fun E R hE => ?_⟩
        · rintro cls dd G ⟨x, rfl, rfl, sG, eG⟩
          refine ⟨X.ms, CS, x, _, _, rfl, X.s, T.xs.hw, rfl, eG, rfl, _, rfl, okB, fun G' sG' => ?_⟩
          rw [decide_eq_true rfl]
          exact q G'
        · refine ⟨_, rfl, _, rfl, _, rfl, _, rfl, rfl, rfl, l, bA, bs, _, z, rfl, g, bok, by omega, .inl (SqL.of S11.bA), fok, fun _ H' dd sm nd e => hE _ _ _ ⟨dd, rfl, rfl, sm, e⟩, fun o1 t1 _ e2 _ ht => absurd (by rw [e2]; exact mem_sg.mpr ht) hzn⟩
      · refine ⟨_, rfl, _, rfl, _, rfl, _, rfl, l, bA, bs, z, _, rfl, g, bok, by omega, .inl (SqL.of S9.bA), fok, fun _ H' dd sm nd e => hE _ _ _ ⟨dd, rfl, rfl, sm, e⟩, fun o1 t1 e1 _ ho _ => absurd (by rw [e1]; exact mem_sg.mpr ho) hzn⟩
end
end NC
namespace NC
open PySem PySem.Spec PyProof.Rows L2
theorem exm_of {K : PySem.W.Frag} {R S : Addr} {b : Bool} (h1 : PySem.W.subIn K (.ref S) (.type "BaseException") = some true) (h2 : PySem.W.isClsIn K S = true) (h3 : PySem.W.typeIn K (.ref S) = some (.type "type")) (h4 : PySem.W.subIn K (.ref R) (.ref S) = some b) :
    PySem.W.exmOne K (.ref R) (.ref S) = some b := by
  have e1 : (PySem.W.subIn K (.ref S) (.type "BaseException") == some true) = true := by rw [h1] <;> rfl
  have e2 : ((PySem.W.clsIn K S).isSome && PySem.W.typeIn K (.ref S) == some (.type "type")) = true := by
    have h2' : (PySem.W.clsIn K S).isSome = true := h2
    rw [h2', h3] <;> rfl
  show (if (PySem.W.subIn K (.ref S) (.type "BaseException") == some true) = true then (if ((PySem.W.clsIn K S).isSome && PySem.W.typeIn K (.ref S) == some (.type "type")) = true then PySem.W.subIn K (.ref R) (.ref S) else none) else none) = some b
  rw [if_pos e1, if_pos e2]
  exact h4
theorem exmAny_of {K : PySem.W.Frag} {cls c : Value} {r : List Value} {a b : Bool} (h1 : PySem.W.exmOne K cls c = some a) (h2 : PySem.W.exmAny K cls r = some b) : PySem.W.exmAny K cls (c :: r) = some (a || b) := by
  unfold PySem.W.exmAny
  rw [h1, h2]
theorem kw_of {K : PySem.W.Frag} {fd : FuncData} (h : ∀ b a t o : Value, bindArgs fd ⟨[], [("bars", b), ("walls", a), ("two", t), ("one", o)]⟩ = (pure ((["walls", "bars", "one", "two"] : List Str).zip [a, b, o, t]) : Sem (List (Str × Value)))) : KBn K fd ["walls", "bars", "one", "two"] 0 ["bars", "walls", "two", "one"] gKw gKw where
  to := fun s us ws _ l1 l2 => match us, ws, l1, l2 with
    | [], [b, a, t, o], _, _ => .of_eq (h b a t o)
  rel := fun {vs us zs ws} _ r => match r with
    | .cons r1 (.cons r2 (.cons r3 (.cons r4 .nil))) => .cons r2 (.cons r1 (.cons r4 (.cons r3 .nil)))
    | .nil => .nil
    | .cons _ .nil => .nil
    | .cons _ (.cons _ .nil) => .nil
    | .cons _ (.cons _ (.cons _ .nil)) => .nil
    | .cons _ (.cons _ (.cons _ (.cons _ (.cons _ _)))) => .nil
set_option maxHeartbeats 2000000 in
theorem all_mk {l : PySem.W.OpenLaw} {w : World} {K : PySem.W.Frag} {h : Heap} {mg : Str → Option Value} {fa PT : Addr} (X : K.In h) (G : h.Ns mainGlobals mg) (hfa : mg "law" = some (.ref fa)) (hPT : h.get? PT = some { cls := .none, data := .fields #[] }) (nPT : K.lookup PT = none)
    {f_O : Addr} {oc_O kV_O dc_O pm_O cd_O ct_O : Value} {od_O an_O : Option Addr} {sl_O : Array (Option Value)}
    {f_S : Addr} {oc_S kV_S dc_S pm_S cd_S ct_S : Value} {od_S an_S : Option Addr} {sl_S : Array (Option Value)}
    {f_W : Addr} {oc_W kV_W dc_W pm_W cd_W ct_W : Value} {od_W an_W : Option Addr} {sl_W : Array (Option Value)}
    {f_I : Addr} {oc_I kV_I dc_I pm_I cd_I ct_I : Value} {od_I an_I : Option Addr} {sl_I : Array (Option Value)}
    {f_cw : Addr} {oc_cw kV_cw dc_cw pm_cw cd_cw ct_cw : Value} {od_cw an_cw : Option Addr} {sl_cw : Array (Option Value)}
    {f_cb : Addr} {oc_cb kV_cb dc_cb pm_cb cd_cb ct_cb : Value} {od_cb an_cb : Option Addr} {sl_cb : Array (Option Value)}
    {f_cs : Addr} {oc_cs kV_cs dc_cs pm_cs cd_cs ct_cs : Value} {od_cs an_cs : Option Addr} {sl_cs : Array (Option Value)}
    {f_st : Addr} {oc_st kV_st dc_st pm_st cd_st ct_st : Value} {od_st an_st : Option Addr} {sl_st : Array (Option Value)}
    {f_re : Addr} {oc_re kV_re dc_re pm_re cd_re ct_re : Value} {od_re an_re : Option Addr} {sl_re : Array (Option Value)}
    {f_ch : Addr} {oc_ch kV_ch dc_ch pm_ch cd_ch ct_ch : Value} {od_ch an_ch : Option Addr} {sl_ch : Array (Option Value)}
    {f_start : Addr} {oc_start kV_start dc_start pm_start cd_start ct_start : Value} {od_start an_start : Option Addr} {sl_start : Array (Option Value)}
    {f_draw : Addr} {oc_draw kV_draw dc_draw pm_draw cd_draw ct_draw : Value} {od_draw an_draw : Option Addr} {sl_draw : Array (Option Value)}
    {f_of : Addr} {oc_of kV_of dc_of pm_of cd_of ct_of : Value} {od_of an_of : Option Addr} {sl_of : Array (Option Value)}
    {f_letters : Addr} {oc_letters kV_letters dc_letters pm_letters cd_letters ct_letters : Value} {od_letters an_letters : Option Addr} {sl_letters : Array (Option Value)}
    {f_shuts : Addr} {oc_shuts kV_shuts dc_shuts pm_shuts cd_shuts ct_shuts : Value} {od_shuts an_shuts : Option Addr} {sl_shuts : Array (Option Value)}
    {f_oth : Addr} {oc_oth kV_oth dc_oth pm_oth cd_oth ct_oth : Value} {od_oth an_oth : Option Addr} {sl_oth : Array (Option Value)}
    {f_pairs : Addr} {oc_pairs kV_pairs dc_pairs pm_pairs cd_pairs ct_pairs : Value} {od_pairs an_pairs : Option Addr} {sl_pairs : Array (Option Value)}
    {f_word : Addr} {oc_word kV_word dc_word pm_word cd_word ct_word : Value} {od_word an_word : Option Addr} {sl_word : Array (Option Value)}
    {f_ref : Addr} {oc_ref kV_ref dc_ref pm_ref cd_ref ct_ref : Value} {od_ref an_ref : Option Addr} {sl_ref : Array (Option Value)}
    {f_strg : Addr} {oc_strg kV_strg dc_strg pm_strg cd_strg ct_strg : Value} {od_strg an_strg : Option Addr} {sl_strg : Array (Option Value)}
    {f_str : Addr} {oc_str kV_str dc_str pm_str cd_str ct_str : Value} {od_str an_str : Option Addr} {sl_str : Array (Option Value)}
    {f_far : Addr} {oc_far kV_far dc_far pm_far cd_far ct_far : Value} {od_far an_far : Option Addr} {sl_far : Array (Option Value)}
    {CH : Addr}
    {CB : Addr}
    {CS : Addr}
    {CM : Addr}
    {CN : Addr}
    {nm_CB q_CB : Str} {N_CB : Addr} {bs_CB bm_CB sub_CB : List Value} {sn_CB : List Str} {ab_CB : Bool} {col_CB : Option Bool} {dd_CB : Option Addr} {m0_CB m1_CB m2_CB m3_CB m5_CB : Option Value}
    {nm_CS q_CS : Str} {N_CS : Addr} {bs_CS bm_CS sub_CS : List Value} {sn_CS : List Str} {ab_CS : Bool} {col_CS : Option Bool} {dd_CS : Option Addr} {m0_CS m1_CS m2_CS m3_CS m5_CS : Option Value}
    {f_iH : Addr} {oc_iH kV_iH dc_iH pm_iH cd_iH ct_iH : Value} {od_iH an_iH : Option Addr} {sl_iH : Array (Option Value)}
    {f_iB : Addr} {oc_iB kV_iB dc_iB pm_iB cd_iB ct_iB : Value} {od_iB an_iB : Option Addr} {sl_iB : Array (Option Value)}
    {f_iS : Addr} {oc_iS kV_iS dc_iS pm_iS cd_iS ct_iS : Value} {od_iS an_iS : Option Addr} {sl_iS : Array (Option Value)}
    {tw : Tok}
    {c : Addr} {fL : Addr} {ocL kVL dcL pmL ctL : Value} {odL anL : Option Addr} {slL : Array (Option Value)}
    (a_O : PySem.W.nsIn K mainGlobals "other" = some (some (.ref f_O)))
    (l_O : K.lookup f_O = some ⟨oc_O, od_O, .func (PySem.W.fnOf "other" "other" (defArgs sOther) (defBody sOther) (defScope sOther) .none kV_O dc_O pm_O an_O cd_O ct_O), sl_O⟩)
    (c_O : PySem.W.codeIn K cd_O "other" = true)
    (k_O : PySem.W.keepIn K (.ref f_O) = true)
    (a_S : PySem.W.nsIn K mainGlobals "sides_of" = some (some (.ref f_S)))
    (l_S : K.lookup f_S = some ⟨oc_S, od_S, .func (PySem.W.fnOf "sides_of" "sides_of" (defArgs sSides) (defBody sSides) (defScope sSides) .none kV_S dc_S pm_S an_S cd_S ct_S), sl_S⟩)
    (c_S : PySem.W.codeIn K cd_S "sides_of" = true)
    (k_S : PySem.W.keepIn K (.ref f_S) = true)
    (a_W : PySem.W.nsIn K mainGlobals "is_walls" = some (some (.ref f_W)))
    (l_W : K.lookup f_W = some ⟨oc_W, od_W, .func (PySem.W.fnOf "is_walls" "is_walls" (defArgs sIsWalls) (defBody sIsWalls) (defScope sIsWalls) .none kV_W dc_W pm_W an_W cd_W ct_W), sl_W⟩)
    (c_W : PySem.W.codeIn K cd_W "is_walls" = true)
    (k_W : PySem.W.keepIn K (.ref f_W) = true)
    (a_I : PySem.W.nsIn K mainGlobals "is_bar" = some (some (.ref f_I)))
    (l_I : K.lookup f_I = some ⟨oc_I, od_I, .func (PySem.W.fnOf "is_bar" "is_bar" (defArgs sIsBar) (defBody sIsBar) (defScope sIsBar) .none kV_I dc_I pm_I an_I cd_I ct_I), sl_I⟩)
    (c_I : PySem.W.codeIn K cd_I "is_bar" = true)
    (k_I : PySem.W.keepIn K (.ref f_I) = true)
    (a_cw : PySem.W.nsIn K mainGlobals "check_walls" = some (some (.ref f_cw)))
    (l_cw : K.lookup f_cw = some ⟨oc_cw, od_cw, .func (PySem.W.fnOf "check_walls" "check_walls" (defArgs sChkWalls) (defBody sChkWalls) (defScope sChkWalls) .none kV_cw dc_cw pm_cw an_cw cd_cw ct_cw), sl_cw⟩)
    (c_cw : PySem.W.codeIn K cd_cw "check_walls" = true)
    (k_cw : PySem.W.keepIn K (.ref f_cw) = true)
    (a_cb : PySem.W.nsIn K mainGlobals "check_bars" = some (some (.ref f_cb)))
    (l_cb : K.lookup f_cb = some ⟨oc_cb, od_cb, .func (PySem.W.fnOf "check_bars" "check_bars" (defArgs sChkBars) (defBody sChkBars) (defScope sChkBars) .none kV_cb dc_cb pm_cb an_cb cd_cb ct_cb), sl_cb⟩)
    (c_cb : PySem.W.codeIn K cd_cb "check_bars" = true)
    (k_cb : PySem.W.keepIn K (.ref f_cb) = true)
    (a_cs : PySem.W.nsIn K mainGlobals "check_side" = some (some (.ref f_cs)))
    (l_cs : K.lookup f_cs = some ⟨oc_cs, od_cs, .func (PySem.W.fnOf "check_side" "check_side" (defArgs sChkSide) (defBody sChkSide) (defScope sChkSide) .none kV_cs dc_cs pm_cs an_cs cd_cs ct_cs), sl_cs⟩)
    (c_cs : PySem.W.codeIn K cd_cs "check_side" = true)
    (k_cs : PySem.W.keepIn K (.ref f_cs) = true)
    (a_st : PySem.W.nsIn K mainGlobals "straight_from" = some (some (.ref f_st)))
    (l_st : K.lookup f_st = some ⟨oc_st, od_st, .func (PySem.W.fnOf "straight_from" "straight_from" (defArgs sStraight) (defBody sStraight) (defScope sStraight) .none kV_st dc_st pm_st an_st cd_st ct_st), sl_st⟩)
    (c_st : PySem.W.codeIn K cd_st "straight_from" = true)
    (k_st : PySem.W.keepIn K (.ref f_st) = true)
    (a_re : PySem.W.nsIn K mainGlobals "reached" = some (some (.ref f_re)))
    (l_re : K.lookup f_re = some ⟨oc_re, od_re, .func (PySem.W.fnOf "reached" "reached" (defArgs sReached) (defBody sReached) (defScope sReached) .none kV_re dc_re pm_re an_re cd_re ct_re), sl_re⟩)
    (c_re : PySem.W.codeIn K cd_re "reached" = true)
    (k_re : PySem.W.keepIn K (.ref f_re) = true)
    (a_ch : PySem.W.nsIn K mainGlobals "chain" = some (some (.ref f_ch)))
    (l_ch : K.lookup f_ch = some ⟨oc_ch, od_ch, .func (PySem.W.fnOf "chain" "chain" (defArgs sChain) (defBody sChain) (defScope sChain) .none kV_ch dc_ch pm_ch an_ch cd_ch ct_ch), sl_ch⟩)
    (c_ch : PySem.W.codeIn K cd_ch "chain" = true)
    (k_ch : PySem.W.keepIn K (.ref f_ch) = true)
    (a_start : PySem.W.nsIn K mainGlobals "_law_start" = some (some (.ref f_start)))
    (l_start : K.lookup f_start = some ⟨oc_start, od_start, .func (PySem.W.fnOf "_law_start" "_law_start" (defArgs sStart) (defBody sStart) (defScope sStart) .none kV_start dc_start pm_start an_start cd_start ct_start), sl_start⟩)
    (c_start : PySem.W.codeIn K cd_start "_law_start" = true)
    (k_start : PySem.W.keepIn K (.ref f_start) = true)
    (a_draw : PySem.W.nsIn K mainGlobals "_law_draw" = some (some (.ref f_draw)))
    (l_draw : K.lookup f_draw = some ⟨oc_draw, od_draw, .func (PySem.W.fnOf "_law_draw" "_law_draw" (defArgs sDraw) (defBody sDraw) (defScope sDraw) .none kV_draw dc_draw pm_draw an_draw cd_draw ct_draw), sl_draw⟩)
    (c_draw : PySem.W.codeIn K cd_draw "_law_draw" = true)
    (k_draw : PySem.W.keepIn K (.ref f_draw) = true)
    (a_of : PySem.W.nsIn K mainGlobals "_law_of" = some (some (.ref f_of)))
    (l_of : K.lookup f_of = some ⟨oc_of, od_of, .func (PySem.W.fnOf "_law_of" "_law_of" (defArgs sOf) (defBody sOf) (defScope sOf) .none kV_of dc_of pm_of an_of cd_of ct_of), sl_of⟩)
    (c_of : PySem.W.codeIn K cd_of "_law_of" = true)
    (k_of : PySem.W.keepIn K (.ref f_of) = true)
    (a_letters : PySem.W.nsIn K mainGlobals "_law_letters" = some (some (.ref f_letters)))
    (l_letters : K.lookup f_letters = some ⟨oc_letters, od_letters, .func (PySem.W.fnOf "_law_letters" "_law_letters" (defArgs sLetters) (defBody sLetters) (defScope sLetters) .none kV_letters dc_letters pm_letters an_letters cd_letters ct_letters), sl_letters⟩)
    (c_letters : PySem.W.codeIn K cd_letters "_law_letters" = true)
    (k_letters : PySem.W.keepIn K (.ref f_letters) = true)
    (a_shuts : PySem.W.nsIn K mainGlobals "_law_shuts" = some (some (.ref f_shuts)))
    (l_shuts : K.lookup f_shuts = some ⟨oc_shuts, od_shuts, .func (PySem.W.fnOf "_law_shuts" "_law_shuts" (defArgs sShuts) (defBody sShuts) (defScope sShuts) .none kV_shuts dc_shuts pm_shuts an_shuts cd_shuts ct_shuts), sl_shuts⟩)
    (c_shuts : PySem.W.codeIn K cd_shuts "_law_shuts" = true)
    (k_shuts : PySem.W.keepIn K (.ref f_shuts) = true)
    (a_oth : PySem.W.nsIn K mainGlobals "_law_other" = some (some (.ref f_oth)))
    (l_oth : K.lookup f_oth = some ⟨oc_oth, od_oth, .func (PySem.W.fnOf "_law_other" "_law_other" (defArgs sOth) (defBody sOth) (defScope sOth) .none kV_oth dc_oth pm_oth an_oth cd_oth ct_oth), sl_oth⟩)
    (c_oth : PySem.W.codeIn K cd_oth "_law_other" = true)
    (k_oth : PySem.W.keepIn K (.ref f_oth) = true)
    (a_pairs : PySem.W.nsIn K mainGlobals "_law_pairs" = some (some (.ref f_pairs)))
    (l_pairs : K.lookup f_pairs = some ⟨oc_pairs, od_pairs, .func (PySem.W.fnOf "_law_pairs" "_law_pairs" (defArgs sPairs) (defBody sPairs) (defScope sPairs) .none kV_pairs dc_pairs pm_pairs an_pairs cd_pairs ct_pairs), sl_pairs⟩)
    (c_pairs : PySem.W.codeIn K cd_pairs "_law_pairs" = true)
    (k_pairs : PySem.W.keepIn K (.ref f_pairs) = true)
    (a_word : PySem.W.nsIn K mainGlobals "_law_word" = some (some (.ref f_word)))
    (l_word : K.lookup f_word = some ⟨oc_word, od_word, .func (PySem.W.fnOf "_law_word" "_law_word" (defArgs sWord) (defBody sWord) (defScope sWord) .none kV_word dc_word pm_word an_word cd_word ct_word), sl_word⟩)
    (c_word : PySem.W.codeIn K cd_word "_law_word" = true)
    (k_word : PySem.W.keepIn K (.ref f_word) = true)
    (a_ref : PySem.W.nsIn K mainGlobals "_law_refused" = some (some (.ref f_ref)))
    (l_ref : K.lookup f_ref = some ⟨oc_ref, od_ref, .func (PySem.W.fnOf "_law_refused" "_law_refused" (defArgs sRef) (defBody sRef) (defScope sRef) .none kV_ref dc_ref pm_ref an_ref cd_ref ct_ref), sl_ref⟩)
    (c_ref : PySem.W.codeIn K cd_ref "_law_refused" = true)
    (k_ref : PySem.W.keepIn K (.ref f_ref) = true)
    (a_strg : PySem.W.nsIn K mainGlobals "_law_strange" = some (some (.ref f_strg)))
    (l_strg : K.lookup f_strg = some ⟨oc_strg, od_strg, .func (PySem.W.fnOf "_law_strange" "_law_strange" (defArgs sStrange) (defBody sStrange) (defScope sStrange) .none kV_strg dc_strg pm_strg an_strg cd_strg ct_strg), sl_strg⟩)
    (c_strg : PySem.W.codeIn K cd_strg "_law_strange" = true)
    (k_strg : PySem.W.keepIn K (.ref f_strg) = true)
    (a_str : PySem.W.nsIn K mainGlobals "_law_straight" = some (some (.ref f_str)))
    (l_str : K.lookup f_str = some ⟨oc_str, od_str, .func (PySem.W.fnOf "_law_straight" "_law_straight" (defArgs sStr) (defBody sStr) (defScope sStr) .none kV_str dc_str pm_str an_str cd_str ct_str), sl_str⟩)
    (c_str : PySem.W.codeIn K cd_str "_law_straight" = true)
    (k_str : PySem.W.keepIn K (.ref f_str) = true)
    (a_far : PySem.W.nsIn K mainGlobals "_law_far" = some (some (.ref f_far)))
    (l_far : K.lookup f_far = some ⟨oc_far, od_far, .func (PySem.W.fnOf "_law_far" "_law_far" (defArgs sFar) (defBody sFar) (defScope sFar) .none kV_far dc_far pm_far an_far cd_far ct_far), sl_far⟩)
    (c_far : PySem.W.codeIn K cd_far "_law_far" = true)
    (k_far : PySem.W.keepIn K (.ref f_far) = true)
    (a_CH : PySem.W.nsIn K mainGlobals "HallError" = some (some (.ref CH)))
    (a_CB : PySem.W.nsIn K mainGlobals "BadBar" = some (some (.ref CB)))
    (a_CS : PySem.W.nsIn K mainGlobals "BadSide" = some (some (.ref CS)))
    (a_CM : PySem.W.nsIn K mainGlobals "Missing" = some (some (.ref CM)))
    (a_CN : PySem.W.nsIn K mainGlobals "NothingLeft" = some (some (.ref CN)))
    (i_H : PySem.W.findCls K (.ref CH) (.type "type") "__init__" = some (.val (.ref f_iH)))
    (r_H : PySem.W.readsIn K CH (.type "type") = true)
    (g_H : PySem.W.specialIn K (.ref CH) "__getattribute__" = some (some (.builtin "type.__getattribute__")))
    (v_V : PySem.W.findCls K (.type "ValueError") (.type "type") "__init__" = some (.val (.builtin "ValueError.__init__")))
    (x_CB : K.lookup CB = some (excClassObj nm_CB q_CB CB N_CB bs_CB bm_CB true sn_CB sub_CB ab_CB col_CB dd_CB m0_CB m1_CB m2_CB m3_CB m5_CB "ValueError.__new__"))
    (rv_CB : PySem.HandSPX.refsVE bm_CB = true)
    (sa_CB : PySem.W.findIn K (.ref CB) "__setattr__" = some (some (.builtin "object.__setattr__")))
    (ex_CB : PySem.W.subIn K (.ref CB) (.type "BaseException") = some true)
    (ty_CB : PySem.W.typeIn K (.ref CB) = some (.type "type"))
    (kc_CB : PySem.W.keepIn K (.ref CB) = true)
    (i_CB : PySem.W.findIn K (.ref CB) "__init__" = some (some (.ref f_iB)))
    (t_CB : PySem.W.typeIn K (.ref f_iB) = some (.type "function"))
    (n_CB_word : PySem.W.findIn K (.ref CB) "word" = some none)
    (n_CB_at : PySem.W.findIn K (.ref CB) "at" = some none)
    (x_CS : K.lookup CS = some (excClassObj nm_CS q_CS CS N_CS bs_CS bm_CS true sn_CS sub_CS ab_CS col_CS dd_CS m0_CS m1_CS m2_CS m3_CS m5_CS "ValueError.__new__"))
    (rv_CS : PySem.HandSPX.refsVE bm_CS = true)
    (sa_CS : PySem.W.findIn K (.ref CS) "__setattr__" = some (some (.builtin "object.__setattr__")))
    (ga_CS : PySem.W.findIn K (.ref CS) "__getattribute__" = some (some (.builtin "BaseException.__getattribute__")))
    (gg_CS : PySem.W.findIn K (.ref CS) "__getattr__" = some none)
    (hd_CS : PySem.W.hasDictIn K CS = true)
    (ex_CS : PySem.W.subIn K (.ref CS) (.type "BaseException") = some true)
    (ty_CS : PySem.W.typeIn K (.ref CS) = some (.type "type"))
    (kc_CS : PySem.W.keepIn K (.ref CS) = true)
    (i_CS : PySem.W.findIn K (.ref CS) "__init__" = some (some (.ref f_iS)))
    (t_CS : PySem.W.typeIn K (.ref f_iS) = some (.type "function"))
    (n_CS_word : PySem.W.findIn K (.ref CS) "word" = some none)
    (l_iH : K.lookup f_iH = some ⟨oc_iH, od_iH, .func (PySem.W.fnOf "__init__" "HallError.__init__" (defArgs sHEinit) (defBody sHEinit) (defScope sHEinit) .none kV_iH dc_iH pm_iH an_iH cd_iH ct_iH), sl_iH⟩)
    (c_iH : PySem.W.codeIn K cd_iH "HallError.__init__" = true)
    (k_iH : PySem.W.keepIn K (.ref f_iH) = true)
    (l_iB : K.lookup f_iB = some ⟨oc_iB, od_iB, .func (PySem.W.fnOf "__init__" "BadBar.__init__" (defArgs sBBinit) (defBody sBBinit) (defScope sBBinit) .none kV_iB dc_iB pm_iB an_iB cd_iB ct_iB), sl_iB⟩)
    (c_iB : PySem.W.codeIn K cd_iB "BadBar.__init__" = true)
    (k_iB : PySem.W.keepIn K (.ref f_iB) = true)
    (l_iS : K.lookup f_iS = some ⟨oc_iS, od_iS, .func (PySem.W.fnOf "__init__" "BadSide.__init__" (defArgs sBSinit) (defBody sBSinit) (defScope sBSinit) .none kV_iS dc_iS pm_iS an_iS cd_iS ct_iS), sl_iS⟩)
    (c_iS : PySem.W.codeIn K cd_iS "BadSide.__init__" = true)
    (k_iS : PySem.W.keepIn K (.ref f_iS) = true)
    (e_CH : PySem.W.subIn K (.ref CS) (.ref CH) = some true)
    (ex_CH : PySem.W.subIn K (.ref CH) (.type "BaseException") = some true)
    (ty_CH : PySem.W.typeIn K (.ref CH) = some (.type "type"))
    (ic_CH : PySem.W.isClsIn K CH = true)
    (e_CM : PySem.W.subIn K (.ref CS) (.ref CM) = some false)
    (ex_CM : PySem.W.subIn K (.ref CM) (.type "BaseException") = some true)
    (ty_CM : PySem.W.typeIn K (.ref CM) = some (.type "type"))
    (ic_CM : PySem.W.isClsIn K CM = true)
    (e_CN : PySem.W.subIn K (.ref CS) (.ref CN) = some false)
    (ex_CN : PySem.W.subIn K (.ref CN) (.type "BaseException") = some true)
    (ty_CN : PySem.W.typeIn K (.ref CN) = some (.type "type"))
    (ic_CN : PySem.W.isClsIn K CN = true)
    (z_list : PySem.W.nsIn K mainGlobals "list" = some none)
    (z_sorted : PySem.W.nsIn K mainGlobals "sorted" = some none)
    (z_set : PySem.W.nsIn K mainGlobals "set" = some none)
    (z_all : PySem.W.nsIn K mainGlobals "all" = some none)
    (z_len : PySem.W.nsIn K mainGlobals "len" = some none)
    (z_enumerate : PySem.W.nsIn K mainGlobals "enumerate" = some none)
    (z_range : PySem.W.nsIn K mainGlobals "range" = some none)
    (z_isinstance : PySem.W.nsIn K mainGlobals "isinstance" = some none)
    (z_tuple : PySem.W.nsIn K mainGlobals "tuple" = some none)
    (z_any : PySem.W.nsIn K mainGlobals "any" = some none)
    (z_ValueError : PySem.W.nsIn K mainGlobals "ValueError" = some none)
    (w_W : PySem.W.nsIn K mainGlobals "WIDEST" = some (some (.int 12 tw)))
    (a_L : PySem.W.nsIn K mainGlobals "law" = some (some (.ref fL)))
    (l_L : K.lookup fL = some ⟨ocL, odL, .func (PySem.W.fnOf "law" "law" (defArgs sLaw) (defBody sLaw) (defScope sLaw) .none kVL dcL pmL anL (.ref c) ctL), slL⟩)
    (c_L : PySem.W.codeIn K (.ref c) "law" = true)
    (h_L : PySem.W.codeHdIn K c PT = true)
    : LamX.LawAtS l w K CX0 9 63 "_law_script" mg fa h := by
  have F_O := fun_mk (st := sOther) l_O c_O k_O
  have D_O : DF K mg "other" sOther ["side"] f_O _ := ⟨F_O, PySem.W.mg_of X G a_O, F_O.binds (ps := ["side"]) fun _ _ _ _ _ _ us hl => match us, hl with | [_], _ => rfl⟩
  have F_S := fun_mk (st := sSides) l_S c_S k_S
  have D_S : DF K mg "sides_of" sSides ["walls"] f_S _ := ⟨F_S, PySem.W.mg_of X G a_S, F_S.binds (ps := ["walls"]) fun _ _ _ _ _ _ us hl => match us, hl with | [_], _ => rfl⟩
  have F_W := fun_mk (st := sIsWalls) l_W c_W k_W
  have D_W : DF K mg "is_walls" sIsWalls ["walls"] f_W _ := ⟨F_W, PySem.W.mg_of X G a_W, F_W.binds (ps := ["walls"]) fun _ _ _ _ _ _ us hl => match us, hl with | [_], _ => rfl⟩
  have F_I := fun_mk (st := sIsBar) l_I c_I k_I
  have D_I : DF K mg "is_bar" sIsBar ["walls", "bar"] f_I _ := ⟨F_I, PySem.W.mg_of X G a_I, F_I.binds (ps := ["walls", "bar"]) fun _ _ _ _ _ _ us hl => match us, hl with | [_, _], _ => rfl⟩
  have F_cw := fun_mk (st := sChkWalls) l_cw c_cw k_cw
  have D_cw : DF K mg "check_walls" sChkWalls ["walls"] f_cw _ := ⟨F_cw, PySem.W.mg_of X G a_cw, F_cw.binds (ps := ["walls"]) fun _ _ _ _ _ _ us hl => match us, hl with | [_], _ => rfl⟩
  have F_cb := fun_mk (st := sChkBars) l_cb c_cb k_cb
  have D_cb : DF K mg "check_bars" sChkBars ["walls", "bars"] f_cb _ := ⟨F_cb, PySem.W.mg_of X G a_cb, F_cb.binds (ps := ["walls", "bars"]) fun _ _ _ _ _ _ us hl => match us, hl with | [_, _], _ => rfl⟩
  have F_cs := fun_mk (st := sChkSide) l_cs c_cs k_cs
  have D_cs : DF K mg "check_side" sChkSide ["walls", "side"] f_cs _ := ⟨F_cs, PySem.W.mg_of X G a_cs, F_cs.binds (ps := ["walls", "side"]) fun _ _ _ _ _ _ us hl => match us, hl with | [_, _], _ => rfl⟩
  have F_st := fun_mk (st := sStraight) l_st c_st k_st
  have D_st : DF K mg "straight_from" sStraight ["walls", "bars"] f_st _ := ⟨F_st, PySem.W.mg_of X G a_st, F_st.binds (ps := ["walls", "bars"]) fun _ _ _ _ _ _ us hl => match us, hl with | [_, _], _ => rfl⟩
  have F_re := fun_mk (st := sReached) l_re c_re k_re
  have D_re : DF K mg "reached" sReached ["straight", "one"] f_re _ := ⟨F_re, PySem.W.mg_of X G a_re, F_re.binds (ps := ["straight", "one"]) fun _ _ _ _ _ _ us hl => match us, hl with | [_, _], _ => rfl⟩
  have F_ch := fun_mk (st := sChain) l_ch c_ch k_ch
  have D_ch : DF K mg "chain" sChain ["walls", "bars", "one", "two"] f_ch _ := ⟨F_ch, PySem.W.mg_of X G a_ch, F_ch.binds (ps := ["walls", "bars", "one", "two"]) fun _ _ _ _ _ _ us hl => match us, hl with | [_, _, _, _], _ => rfl⟩
  have F_start := fun_mk (st := sStart) l_start c_start k_start
  have D_start : DF K mg "_law_start" sStart ["_law_script"] f_start _ := ⟨F_start, PySem.W.mg_of X G a_start, F_start.binds (ps := ["_law_script"]) fun _ _ _ _ _ _ us hl => match us, hl with | [_], _ => rfl⟩
  have F_draw := fun_mk (st := sDraw) l_draw c_draw k_draw
  have D_draw : DF K mg "_law_draw" sDraw ["_law_d", "_law_many"] f_draw _ := ⟨F_draw, PySem.W.mg_of X G a_draw, F_draw.binds (ps := ["_law_d", "_law_many"]) fun _ _ _ _ _ _ us hl => match us, hl with | [_, _], _ => rfl⟩
  have F_of := fun_mk (st := sOf) l_of c_of k_of
  have D_of : DF K mg "_law_of" sOf ["_law_d", "_law_some"] f_of _ := ⟨F_of, PySem.W.mg_of X G a_of, F_of.binds (ps := ["_law_d", "_law_some"]) fun _ _ _ _ _ _ us hl => match us, hl with | [_, _], _ => rfl⟩
  have F_letters := fun_mk (st := sLetters) l_letters c_letters k_letters
  have D_letters : DF K mg "_law_letters" sLetters [] f_letters _ := ⟨F_letters, PySem.W.mg_of X G a_letters, F_letters.binds (ps := []) fun _ _ _ _ _ _ us hl => match us, hl with | [], _ => rfl⟩
  have F_shuts := fun_mk (st := sShuts) l_shuts c_shuts k_shuts
  have D_shuts : DF K mg "_law_shuts" sShuts ["_law_d", "_law_most"] f_shuts _ := ⟨F_shuts, PySem.W.mg_of X G a_shuts, F_shuts.binds (ps := ["_law_d", "_law_most"]) fun _ _ _ _ _ _ us hl => match us, hl with | [_, _], _ => rfl⟩
  have F_oth := fun_mk (st := sOth) l_oth c_oth k_oth
  have D_oth : DF K mg "_law_other" sOth ["_law_side"] f_oth _ := ⟨F_oth, PySem.W.mg_of X G a_oth, F_oth.binds (ps := ["_law_side"]) fun _ _ _ _ _ _ us hl => match us, hl with | [_], _ => rfl⟩
  have F_pairs := fun_mk (st := sPairs) l_pairs c_pairs k_pairs
  have D_pairs : DF K mg "_law_pairs" sPairs ["_law_shuts_it"] f_pairs _ := ⟨F_pairs, PySem.W.mg_of X G a_pairs, F_pairs.binds (ps := ["_law_shuts_it"]) fun _ _ _ _ _ _ us hl => match us, hl with | [_], _ => rfl⟩
  have F_word := fun_mk (st := sWord) l_word c_word k_word
  have D_word : DF K mg "_law_word" sWord ["_law_ask"] f_word _ := ⟨F_word, PySem.W.mg_of X G a_word, F_word.binds (ps := ["_law_ask"]) fun _ _ _ _ _ _ us hl => match us, hl with | [_], _ => rfl⟩
  have F_ref := fun_mk (st := sRef) l_ref c_ref k_ref
  have D_ref : DF K mg "_law_refused" sRef ["_law_ask", "_law_due"] f_ref _ := ⟨F_ref, PySem.W.mg_of X G a_ref, F_ref.binds (ps := ["_law_ask", "_law_due"]) fun _ _ _ _ _ _ us hl => match us, hl with | [_, _], _ => rfl⟩
  have F_strg := fun_mk (st := sStrange) l_strg c_strg k_strg
  have D_strg : DF K mg "_law_strange" sStrange ["_law_shuts_it"] f_strg _ := ⟨F_strg, PySem.W.mg_of X G a_strg, F_strg.binds (ps := ["_law_shuts_it"]) fun _ _ _ _ _ _ us hl => match us, hl with | [_], _ => rfl⟩
  have F_str := fun_mk (st := sStr) l_str c_str k_str
  have D_str : DF K mg "_law_straight" sStr ["_law_bars_it", "_law_one_it", "_law_two_it"] f_str _ := ⟨F_str, PySem.W.mg_of X G a_str, F_str.binds (ps := ["_law_bars_it", "_law_one_it", "_law_two_it"]) fun _ _ _ _ _ _ us hl => match us, hl with | [_, _, _], _ => rfl⟩
  have F_far := fun_mk (st := sFar) l_far c_far k_far
  have D_far : DF K mg "_law_far" sFar ["_law_shuts_it", "_law_bars_it", "_law_one_it", "_law_two_it"] f_far _ := ⟨F_far, PySem.W.mg_of X G a_far, F_far.binds (ps := ["_law_shuts_it", "_law_bars_it", "_law_one_it", "_law_two_it"]) fun _ _ _ _ _ _ us hl => match us, hl with | [_, _, _, _], _ => rfl⟩
  have F_iH := fun_mk (st := sHEinit) l_iH c_iH k_iH
  have b_iH := F_iH.binds (ps := ["self", "word"]) fun _ _ _ _ _ _ us hl => match us, hl with | [_, _], _ => rfl
  have F_iB := fun_mk (st := sBBinit) l_iB c_iB k_iB
  have b_iB := F_iB.binds (ps := ["self", "at"]) fun _ _ _ _ _ _ us hl => match us, hl with | [_, _], _ => rfl
  have F_iS := fun_mk (st := sBSinit) l_iS c_iS k_iS
  have b_iS := F_iS.binds (ps := ["self"]) fun _ _ _ _ _ _ us hl => match us, hl with | [_], _ => rfl
  have e := hfa.symm.trans (PySem.W.mg_of X G a_L)
  cases e
  have B : BM mg := ⟨PySem.W.mg_none_of X G z_list, PySem.W.mg_none_of X G z_sorted, PySem.W.mg_none_of X G z_set, PySem.W.mg_none_of X G z_all, PySem.W.mg_none_of X G z_len, PySem.W.mg_none_of X G z_enumerate, PySem.W.mg_none_of X G z_range, PySem.W.mg_none_of X G z_isinstance, PySem.W.mg_none_of X G z_tuple⟩
  have he : HE K mg CH f_iH _ := ⟨PySem.W.mg_of X G a_CH, ⟨_, ⟨r_H, g_H⟩, i_H⟩, F_iH, b_iH, PySem.W.mg_none_of X G z_ValueError, v_V⟩
  have xb : XC K mg "BadBar" "BadBar.__init__" sBBinit "at" CB f_iB _ := ⟨PySem.W.mg_of X G a_CB, ⟨⟨_, _, _, _, _, _, _, _, _, _, _, _, _, _, _, x_CB, rv_CB⟩, sa_CB, ex_CB, ty_CB, kc_CB⟩, n_CB_word, n_CB_at, i_CB, t_CB, F_iB, b_iB⟩
  have xs : XC0 K mg "BadSide" "BadSide.__init__" sBSinit CS f_iS _ := ⟨PySem.W.mg_of X G a_CS, ⟨⟨_, _, _, _, _, _, _, _, _, _, _, _, _, _, _, x_CS, rv_CS⟩, sa_CS, ex_CS, ty_CS, kc_CS⟩, n_CS_word, i_CS, t_CS, F_iS, b_iS⟩
  have T8 := Txt8.mk B (PySem.W.mg_of X G w_W) D_O D_S D_W D_I D_cw D_cb D_cs D_st D_re he xb xs
  have ee : EX K mg CH CM CN CS := ⟨PySem.W.mg_of X G a_CM, PySem.W.mg_of X G a_CN, ⟨ga_CS, gg_CS, ex_CS, hd_CS⟩, exmAny_of (exm_of ex_CH ic_CH ty_CH e_CH) (exmAny_of (exm_of ex_CM ic_CM ty_CM e_CM) (exmAny_of (exm_of ex_CN ic_CN ty_CN e_CN) rfl))⟩
  have kw : KBn K _ ["walls", "bars", "one", "two"] 0 ["bars", "walls", "two", "one"] gKw gKw := kw_of (fd := PySem.W.fnOf "chain" "chain" (defArgs sChain) (defBody sChain) (defScope sChain) .none kV_ch dc_ch pm_ch an_ch cd_ch ct_ch) fun b a t o => rfl
  have hh := Hlp.mk D_start D_draw D_of D_letters D_shuts D_oth D_pairs D_word D_ref D_strg D_str D_far D_ch kw (PySem.W.mg_none_of X G z_any)
  refine ⟨_, [(c, PT)], spLaw K [(PT, lamN (.ref c))], fun p hp => ?_, fun p hp => ?_, fun p hp => ?_, fun s u => .of_eq rfl, fun H a ns hl hb hH hS => ⟨a, ns, rfl, hS, fun p hp => ?_, fun _ => rfl⟩, fun base KB GB TB => ok_law (k := 0) l_L c_L (TB _ (List.mem_cons_self ..)) ee T8 hh⟩
  · rw [List.mem_singleton.mp hp]
    exact hPT
  · rw [List.mem_singleton.mp hp]
    exact nPT
  · rw [List.mem_singleton.mp hp]
    exact PySem.W.codeHd_of_K X h_L
  · rw [List.mem_singleton.mp hp]
    exact LamX.TabS.nil (hH _ (List.mem_cons_self ..))
end NC
open PySem PySem.W PyProof.Rows
set_option maxHeartbeats 0 in
theorem PySem.Challenge.cw_nearcall_k03_chains_of_forcing_holds : PySem.Challenge.rw_nearcall_k03_chains_of_forcing.Holds := by
  w_on; o_law; k_head; (case hw => w_witness2)
  k_fill
  refine LamX.walk_ofTs (l := PySem.Challenge.rw_nearcall_k03_chains_of_forcing) (n := 63) (k := 9) (x := "_law_script") (CX := fun w => L2.CX0) rfl (by decide) rfl ⟨rfl, by decide, by decide⟩ (fun w h Y => PySem.W.km_in_of Y) ?F (fun _ _ _ _ _ h => h)
  case F =>
    intro w mg fa h Y KX G hmg
    refine' NC.all_mk (PT := 277) KX G hmg (PySem.W.km_tabs_of Y 277 (by k_mem)) ?nPT ?a_O ?l_O ?c_O ?k_O ?a_S ?l_S ?c_S ?k_S ?a_W ?l_W ?c_W ?k_W ?a_I ?l_I ?c_I ?k_I ?a_cw ?l_cw ?c_cw ?k_cw ?a_cb ?l_cb ?c_cb ?k_cb ?a_cs ?l_cs ?c_cs ?k_cs ?a_st ?l_st ?c_st ?k_st ?a_re ?l_re ?c_re ?k_re ?a_ch ?l_ch ?c_ch ?k_ch ?a_start ?l_start ?c_start ?k_start ?a_draw ?l_draw ?c_draw ?k_draw ?a_of ?l_of ?c_of ?k_of ?a_letters ?l_letters ?c_letters ?k_letters ?a_shuts ?l_shuts ?c_shuts ?k_shuts ?a_oth ?l_oth ?c_oth ?k_oth ?a_pairs ?l_pairs ?c_pairs ?k_pairs ?a_word ?l_word ?c_word ?k_word ?a_ref ?l_ref ?c_ref ?k_ref ?a_strg ?l_strg ?c_strg ?k_strg ?a_str ?l_str ?c_str ?k_str ?a_far ?l_far ?c_far ?k_far ?a_CH ?a_CB ?a_CS ?a_CM ?a_CN ?i_H ?r_H ?g_H ?v_V ?x_CB ?rv_CB ?sa_CB ?ex_CB ?ty_CB ?kc_CB ?i_CB ?t_CB ?n_CB_word ?n_CB_at ?x_CS ?rv_CS ?sa_CS ?ga_CS ?gg_CS ?hd_CS ?ex_CS ?ty_CS ?kc_CS ?i_CS ?t_CS ?n_CS_word ?l_iH ?c_iH ?k_iH ?l_iB ?c_iB ?k_iB ?l_iS ?c_iS ?k_iS ?e_CH ?ex_CH ?ty_CH ?ic_CH ?e_CM ?ex_CM ?ty_CM ?ic_CM ?e_CN ?ex_CN ?ty_CN ?ic_CN ?z_list ?z_sorted ?z_set ?z_all ?z_len ?z_enumerate ?z_range ?z_isinstance ?z_tuple ?z_any ?z_ValueError ?w_W ?a_L ?l_L ?c_L ?h_L
    (case nPT => kernel_rfl)
    (case a_O => k_is)
    (case l_O => k_is)
    (case c_O => k_is)
    (case k_O => k_is)
    (case a_S => k_is)
    (case l_S => k_is)
    (case c_S => k_is)
    (case k_S => k_is)
    (case a_W => k_is)
    (case l_W => k_is)
    (case c_W => k_is)
    (case k_W => k_is)
    (case a_I => k_is)
    (case l_I => k_is)
    (case c_I => k_is)
    (case k_I => k_is)
    (case a_cw => k_is)
    (case l_cw => k_is)
    (case c_cw => k_is)
    (case k_cw => k_is)
    (case a_cb => k_is)
    (case l_cb => k_is)
    (case c_cb => k_is)
    (case k_cb => k_is)
    (case a_cs => k_is)
    (case l_cs => k_is)
    (case c_cs => k_is)
    (case k_cs => k_is)
    (case a_st => k_is)
    (case l_st => k_is)
    (case c_st => k_is)
    (case k_st => k_is)
    (case a_re => k_is)
    (case l_re => k_is)
    (case c_re => k_is)
    (case k_re => k_is)
    (case a_ch => k_is)
    (case l_ch => k_is)
    (case c_ch => k_is)
    (case k_ch => k_is)
    (case a_start => k_is)
    (case l_start => k_is)
    (case c_start => k_is)
    (case k_start => k_is)
    (case a_draw => k_is)
    (case l_draw => k_is)
    (case c_draw => k_is)
    (case k_draw => k_is)
    (case a_of => k_is)
    (case l_of => k_is)
    (case c_of => k_is)
    (case k_of => k_is)
    (case a_letters => k_is)
    (case l_letters => k_is)
    (case c_letters => k_is)
    (case k_letters => k_is)
    (case a_shuts => k_is)
    (case l_shuts => k_is)
    (case c_shuts => k_is)
    (case k_shuts => k_is)
    (case a_oth => k_is)
    (case l_oth => k_is)
    (case c_oth => k_is)
    (case k_oth => k_is)
    (case a_pairs => k_is)
    (case l_pairs => k_is)
    (case c_pairs => k_is)
    (case k_pairs => k_is)
    (case a_word => k_is)
    (case l_word => k_is)
    (case c_word => k_is)
    (case k_word => k_is)
    (case a_ref => k_is)
    (case l_ref => k_is)
    (case c_ref => k_is)
    (case k_ref => k_is)
    (case a_strg => k_is)
    (case l_strg => k_is)
    (case c_strg => k_is)
    (case k_strg => k_is)
    (case a_str => k_is)
    (case l_str => k_is)
    (case c_str => k_is)
    (case k_str => k_is)
    (case a_far => k_is)
    (case l_far => k_is)
    (case c_far => k_is)
    (case k_far => k_is)
    (case a_CH => k_is)
    (case a_CB => k_is)
    (case a_CS => k_is)
    (case a_CM => k_is)
    (case a_CN => k_is)
    (case i_H => k_is)
    (case r_H => k_is)
    (case g_H => k_is)
    (case v_V => k_is)
    (case x_CB => k_is)
    (case rv_CB => decide +kernel)
    (case sa_CB => k_is)
    (case ex_CB => k_is)
    (case ty_CB => k_is)
    (case kc_CB => k_is)
    (case i_CB => k_is)
    (case t_CB => k_is)
    (case n_CB_word => k_is)
    (case n_CB_at => k_is)
    (case x_CS => k_is)
    (case rv_CS => decide +kernel)
    (case sa_CS => k_is)
    (case ga_CS => k_is)
    (case gg_CS => k_is)
    (case hd_CS => k_is)
    (case ex_CS => k_is)
    (case ty_CS => k_is)
    (case kc_CS => k_is)
    (case i_CS => k_is)
    (case t_CS => k_is)
    (case n_CS_word => k_is)
    (case l_iH => k_is)
    (case c_iH => k_is)
    (case k_iH => k_is)
    (case l_iB => k_is)
    (case c_iB => k_is)
    (case k_iB => k_is)
    (case l_iS => k_is)
    (case c_iS => k_is)
    (case k_iS => k_is)
    (case e_CH => first | k_is | kernel_rfl)
    (case ex_CH => k_is)
    (case ty_CH => k_is)
    (case ic_CH => k_is)
    (case e_CM => first | k_is | kernel_rfl)
    (case ex_CM => k_is)
    (case ty_CM => k_is)
    (case ic_CM => k_is)
    (case e_CN => first | k_is | kernel_rfl)
    (case ex_CN => k_is)
    (case ty_CN => k_is)
    (case ic_CN => k_is)
    (case z_list => k_is)
    (case z_sorted => k_is)
    (case z_set => k_is)
    (case z_all => k_is)
    (case z_len => k_is)
    (case z_enumerate => k_is)
    (case z_range => k_is)
    (case z_isinstance => k_is)
    (case z_tuple => k_is)
    (case z_any => k_is)
    (case z_ValueError => k_is)
    (case w_W => k_is)
    (case a_L => k_is)
    (case l_L => k_is)
    (case c_L => k_is)
    (case h_L => kernel_rfl)
