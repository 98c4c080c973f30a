import PyProof.Rows.All
import Wide.All
import OpenK.AllK
import Wide.FinOn
import HandS.ForMost
import HandS.More
import HandS.Set
import HandS.ClsMeth
import HandS.ExcInit
import HandS.Lambda
import HandS.TryMany
import HandS.ExcField
import HandS.SetTxt0
import HandS.SetFor
import KE.GoesMore
import HandS.Walk
import HandS.DictComp
import HandS.WordsExc
import HandS.Defaults
import PySem.Challenge.RW_nearcall_k31_how_many_steps
import HandS.List
import HandS.IsInst
import HandS.Text
import KE.GoesZip
import KE.GoesEnum
import HandS.Style
import HandS.Conv
import HandS.Steps
import HandS.Call
import HandS.New0
import HandS.Wide
import HandS.MakeKwOnly
import PyProof.Rows.RegStrCode
import HandS.Deep
import HandS.EndTab
import KE.HD2
import HandS.Words
set_option Elab.async false
set_option linter.all false
set_option maxRecDepth 100000
namespace NC
open PySem PySem.Spec PyProof.Rows L2
def sg (c : Nat) : Str := ⟨#[c]⟩
end NC
namespace NC
open PySem PySem.Spec PyProof.Rows L2
section
variable {X : Cx} {CX : CXT} {k : Nat} {C f : Addr} {mc : Value} {sp : Sp} {E : XK} {e : Expr} {es : List Expr} {x m : Str} {pos p1 p2 : Pos} {t : TA} {pl : Sem Bool}
  {fd : FuncData} {ps : List Str} {dvs : List V} {ds : List Value}
/-- C.m(e, ..), C an own class by its name, m a plain def of it -/
theorem pe_clsfn (hg : Gl X x) (hm : X.mg x = some (.ref C)) (rd : ClX.CRead X.K C mc) (kv : PySem.W.findCls X.K (.ref C) mc m = some (.val (.ref f)))
    (F : FnOk X.prog X.w X.K X.mg X.base CX k f fd ps sp) (hr : Room k X.A) (hk : PySem.W.keepIn X.K (.ref f) = true) (hb : Binds X.K fd ps ds) (hd : Vals dvs ds) (hx : Passes CX X E) (ha : PA X (e :: es) t)
    (hdb : (x == ("__debug__" : Str)) = false := by decide)
    (hst : starEach (e :: es) X.env = (false, eval e X.env) :: starEach es X.env := by rfl) (hpl : (backTo pos (starEach es X.env)).any (·.1) = false := by rfl)
    (ht : eval (.Call (.Attribute (.Name x p1) m p2) (e :: es) [] pos) X.env = (do
      let ov ← eval (.Name x p1) X.env
      standAt p2.atName
      let (g, first) ← holding [ov] (getMethod ov m pl)
      callWith pos g first (backTo pos (starEach (e :: es) X.env)) (backToKw pos (keywordEach [] X.env))) := by rfl) :
    PE X (.Call (.Attribute (.Name x p1) m p2) (e :: es) [] pos) (tCall sp dvs E t) := by
  refine ⟨fun pins s0 σ H Q I0 h0 => ?_⟩
  refine PySem.W.methodCall_KW (pl := pl) (ld_glob I0 hg hm ?_ hdb) ht
  refine PySem.W.method_cls I0.kIn rd.ga (ClX.getcval_ok (v := .ref f) I0 rd ⟨kv, rfl⟩ fun s1 I1 => ?_)
  refine PySem.W.callWith_K (first := []) (h₀ := X.base) I1.ok.mod.kin hk (thn (ha.run pos pins s1 σ H _ I1 h0) fun us s2 ⟨vs, H2, I2, r2, q2⟩ => ⟨I2.kIn, ?_⟩) hst hpl
  exact run_fn (us := us) (vs := vs) F hr hb hd hx I2 r2 q2
end
end NC
namespace NC
open PySem PySem.Spec PyProof.Rows L2
def tx (l : List Nat) : Str := ⟨l.toArray⟩
theorem tx_list (l : List Nat) : (tx l).cps.toList = l := by simp [tx]
theorem tx_len (l : List Nat) : (tx l).length = l.length := by show (tx l).cps.size = l.length; simp [tx]
theorem tx_inj {a b : List Nat} (h : tx a = tx b) : a = b := by rw [← tx_list a, h, tx_list]
theorem tx_app (a b : List Nat) : tx a ++ tx b = tx (a ++ b) := by
  show Str.mk (a.toArray ++ b.toArray) = Str.mk (a ++ b).toArray
  simp
structure GoodW (l : List Nat) : Prop where
  lo : 1 ≤ l.length
  hi : l.length ≤ 12
  sm : ∀ c ∈ l, 97 ≤ c ∧ c ≤ 122
  rise : l.Pairwise (· < ·)
theorem GoodW.nd {l : List Nat} (g : GoodW l) : l.Nodup := g.rise.imp fun h => Nat.ne_of_lt h
theorem same_upd {H : Hp} {p : Addr} {o : HO} (h : H p = none) : Same H (upd H p o) := fun b x e => by
  rw [upd_ne (ne_of_none e h)]
  exact e
theorem sm_t {K : PySem.W.Frag} {H H' : Hp} {a : Addr} {xs : List V} (e : Same H H') (h : SqT K H a xs) : SqT K H' a xs := by
  rcases h with (h | ⟨o, h⟩) | h
  · exact .inl (.inl (e _ _ h))
  · exact .inl (.inr ⟨o, e _ _ h⟩)
  · exact .inr h
theorem yes_i {σ : L2.St} {H : Hp} {A B : Hp → Prop} (h : A H) : tYes σ H (fun b H3 => if b = true then A H3 else B H3) := show (if true = true then A H else B H) from iteT h
theorem sm_trans {H H1 H2 : Hp} (a : Same H H1) (b : Same H1 H2) : Same H H2 := fun c o h => b c o (a c o h)
theorem sm_upd {H H1 : Hp} {p : Addr} {o : HO} (e : Same H H1) (h : H1 p = none) : Same H (upd H1 p o) := sm_trans e (same_upd h)
/-- a store at what was new -/
theorem sm_over {H H1 : Hp} {p : Addr} {o : HO} (e : Same H H1) (h : H p = none) : Same H (upd H1 p o) := fun b x hb => by
  rw [upd_ne (ne_of_none hb h)]
  exact e b x hb
theorem sm_l {K : PySem.W.Frag} {H H' : Hp} {a : Addr} {xs : List V} (e : Same H H') (h : SqL K H a xs) : SqL K H' a xs := L2.Same.seq e h
end NC
namespace NC
open PySem PySem.Spec PyProof.Rows L2
def okS (x : Str) : Prop := ∀ c ∈ x.cps.toList, c < 128
theorem okS_tx {l : List Nat} (h : ∀ c ∈ l, c < 128) : okS (tx l) := by unfold okS; rw [tx_list]; exact h
theorem strOk_of {x : Str} (h : okS x) : PyData.strOk x = true := by
  unfold PyData.strOk
  rw [← Array.all_toList, List.all_eq_true]
  intro c hc
  have := h c hc
  simp
  omega
end NC
namespace NC
open PySem PySem.Spec PyProof.Rows L2
def SmX (x : Addr) (H H' : Hp) : Prop := ∀ b o, b ≠ x → H b = some o → H' b = some o
end NC
namespace NC
open PySem PySem.Spec PyProof.Rows L2
def topS (i : Nat) : Stmt := PySem.Challenge.pw_nearcall_k31_how_many_steps.main.body.getD i (.Pass ⟨0, 0, 0, 0⟩)
/-- the built-ins are the built-ins -/
structure BM (mg : Str → Option Value) : Prop where
  list : mg "list" = none
  sorted : mg "sorted" = none
  set : mg "set" = none
  all : mg "all" = none
  len : mg "len" = none
  enumerate : mg "enumerate" = none
  range : mg "range" = none
  isinstance : mg "isinstance" = none
  tuple : mg "tuple" = none
/-- a def of the top, by its name -/
structure DF (K : PySem.W.Frag) (mg : Str → Option Value) (x : Str) (st : Stmt) (ps : List Str) (f : Addr) (fd : FuncData) : Prop where
  F : Fun K x x st f fd
  g : mg x = some (.ref f)
  b : Binds K fd ps []
end NC
namespace NC
open PySem PySem.Spec PyProof.Rows L2
abbrev sStart : Stmt := topS 37
abbrev sDraw : Stmt := topS 38
abbrev sOf : Stmt := topS 39
abbrev sLetters : Stmt := topS 40
theorem scStart : FnScope ["_law_script", "_law_seed", "_law_cell"] ["_law_script"] (defScope sStart) := ⟨rfl, rfl, rfl, by decide +kernel, rfl, by decide +kernel, by decide +kernel⟩
theorem scDraw : FnScope ["_law_d", "_law_many", "_law_cell", "_law_digit", "_law_mix"] ["_law_d", "_law_many"] (defScope sDraw) := ⟨rfl, rfl, rfl, by decide +kernel, rfl, by decide +kernel, by decide +kernel⟩
theorem scOf : FnScope ["_law_d", "_law_some"] ["_law_d", "_law_some"] (defScope sOf) := ⟨rfl, rfl, rfl, by decide +kernel, rfl, by decide +kernel, by decide +kernel⟩
theorem scLetters : FnScope [] [] (defScope sLetters) := ⟨rfl, rfl, rfl, by decide +kernel, rfl, by decide +kernel, by decide +kernel⟩
def Dr (H : Hp) (d : Addr) : Prop := ∃ (c : Addr) (ns : List Int) (i a b e : Int), H d = some (.lst [.ref c, .int i, .int a, .int b, .int e]) ∧ H c = some (.lst (ns.map V.int)) ∧ 0 ≤ i
theorem SmX.refl (x : Addr) (H : Hp) : SmX x H H := fun _ _ _ h => h
theorem SmX.trans {x : Addr} {H H1 H2 : Hp} (a : SmX x H H1) (b : SmX x H1 H2) : SmX x H H2 := fun c o n h => b c o n (a c o n h)
theorem SmX.of {x : Addr} {H H1 : Hp} (a : Same H H1) : SmX x H H1 := fun c o _ h => a c o h
theorem SmX.upd {x : Addr} {H : Hp} {o : HO} : SmX x H (L2.upd H x o) := fun c z n h => by rw [upd_ne n]; exact h
/-- all but d's list stays, and the first of d's list too -/
def HeadC (H : Hp) (d c : Addr) : Prop := ∃ r, H d = some (.lst (.ref c :: r))
def SmD (d : Addr) (H H' : Hp) : Prop := SmX d H H' ∧ ∀ c, HeadC H d c → HeadC H' d c
theorem SmD.refl (x : Addr) (H : Hp) : SmD x H H := ⟨SmX.refl x H, fun _ h => h⟩
theorem SmD.trans {x : Addr} {H H1 H2 : Hp} (a : SmD x H H1) (b : SmD x H1 H2) : SmD x H H2 := ⟨a.1.trans b.1, fun c h => b.2 c (a.2 c h)⟩
theorem SmD.of {x : Addr} {H H1 : Hp} (a : Same H H1) : SmD x H H1 := ⟨SmX.of a, fun _ ⟨r, h⟩ => ⟨r, a _ _ h⟩⟩
theorem SmD.upd {x c : Addr} {H : Hp} {r r' : List V} (h : H x = some (.lst (.ref c :: r))) : SmD x H (L2.upd H x (.lst (.ref c :: r'))) := ⟨SmX.upd, fun c2 ⟨r2, h2⟩ => by
  rw [h] at h2
  have e : c = c2 := by
    injection h2 with h3
    injection h3 with h3
    injection h3 with h3 _
    injection h3
  exact ⟨r', by rw [← e]; exact upd_same⟩⟩
theorem dr_ne {H : Hp} {c d : Addr} {ns : List Int} {x : Addr} {i a b e : Int} (h1 : H d = some (.lst [.ref x, .int i, .int a, .int b, .int e])) (h2 : H c = some (.lst (ns.map V.int))) : c ≠ d := ne_of h2 h1 fun z => by
  have z2 : ns.map V.int = [.ref x, .int i, .int a, .int b, .int e] := by injection z
  cases ns with
  | nil => cases z2
  | cons n r =>
    rw [List.map_cons] at z2
    injection z2 with z3 _
    cases z3
theorem Dr.same {H H' : Hp} {d : Addr} (h : Dr H d) (e : Same H H') : Dr H' d := by
  obtain ⟨c, ns, i, a, b, f, h1, h2, h3⟩ := h
  exact ⟨c, ns, i, a, b, f, e _ _ h1, e _ _ h2, h3⟩
section
variable {P : Program} {w : World} {K : PySem.W.Frag} {mg : Str → Option Value} {base : Heap}
def spDraw : Sp := fun vs H Q _ => ∃ d n, vs = [.ref d, .int n] ∧ Dr H d ∧ 1 ≤ n ∧ n ≤ 1000000000 ∧ ∀ H' v, SmD d H H' → Dr H' d → 0 ≤ v → v < n → Q (.int v) H'
set_option maxHeartbeats 1000000 in
theorem ok_draw {f : Addr} {fd : FuncData} {k : Nat} (B : BM mg) (F : Fun K "_law_draw" "_law_draw" sDraw f fd) : FnOk P w K mg base CX0 (k + 1) f fd ["_law_d", "_law_many"] spDraw := by
  refine F.ok scDraw (fun vs H Q E h => ?_) (fun cdv A outer s H vs Q E hr h => ?_)
  · obtain ⟨d, n, rfl, _⟩ := h
    rfl
  · obtain ⟨d, n, rfl, D, hn1, hn2, q⟩ := h
    refine ⟨_, C8.pss_cut (ps_if (PW.pt (pw_and (pt_cmpR op_lt (pe_ix ix_list (pv 0) pe_int (fun _ _ => rfl)) (pv 1) (nomark _))
        (pw_and1 (pt_cmpR op_lt (pe_ix ix_list (pv 0) pe_int (fun _ _ => rfl)) (pe_callB call_len_seq (by rfl) B.len PySem.boot_len (pa_cons (pe_ix ix_list (pv 0) pe_int (fun _ _ => rfl)) pa_nil)) (nomark _)))))
      (pss_cons (ps_set (i := 2) scDraw.nd rfl (.inl rfl) (pe_ix ix_list (pe_ix ix_list (pv 0) pe_int (fun _ _ => rfl)) (pe_ix ix_list (pv 0) pe_int (fun _ _ => rfl)) (fun _ _ => rfl)))
      (pss_cons (ps_asg (pe_op op_add (pe_ix ix_list (pv 0) pe_int (fun _ _ => rfl)) pe_int) (pg_sub (pv 0) pe_int set_list))
      (pss_cons (ps_asg (pe_ifExp (pt_cmpR op_ge (pv 2) (pe_op op_pow pe_int pe_int) (nomark _)) (pv 2) pe_int) (pg_sub (pv 0) pe_int set_list))
      (pss_one (ps_asg (pe_op op_mod (pe_op op_add (pe_op op_add (pe_op op_mul (pe_ix ix_list (pv 0) pe_int (fun _ _ => rfl)) pe_int) (pe_op op_mod (pv 2) pe_int)) pe_int) pe_int) (pg_sub (pv 0) pe_int set_list)))))) pss_nil)
      (pss_cons (ps_if (pt_cmpR op_ge (pe_ix ix_list (pv 0) pe_int (fun _ _ => rfl)) (pv 1) (nomark _))
        (pss_cons (ps_set (i := 3) scDraw.nd rfl (.inl rfl) (pe_op op_mod (pe_ix ix_list (pv 0) pe_int (fun _ _ => rfl)) (pv 1)))
        (pss_cons (ps_asg (pe_op op_fdiv (pe_ix ix_list (pv 0) pe_int (fun _ _ => rfl)) (pv 1)) (pg_sub (pv 0) pe_int set_list))
        (pss_one (ps_ret (pv 3))))) pss_nil)
      (pss_cons (ps_asg (pe_op op_add (pe_ix ix_list (pv 0) pe_int (fun _ _ => rfl)) pe_int) (pg_sub (pv 0) pe_int set_list))
      (pss_cons (ps_set (i := 4) scDraw.nd rfl (.inl rfl) (pe_op op_add (pe_op op_add (pe_op op_mul (pe_ix ix_list (pv 0) pe_int (fun _ _ => rfl)) pe_int) (pe_op op_mul (pe_ix ix_list (pv 0) pe_int (fun _ _ => rfl)) pe_int)) pe_int))
      (pss_cons (ps_set (i := 4) scDraw.nd rfl (.inl rfl) (pe_op op_add (pe_op op_mul (pv 4) (pe_op op_add (pe_op op_mod (pv 4) pe_int) pe_int)) (pe_op op_mul (pe_ix ix_list (pv 0) pe_int (fun _ _ => rfl)) pe_int)))
      (pss_cons (ps_asg (pe_op op_mod (pv 4) pe_int) (pg_sub (pv 0) pe_int set_list))
      (pss_one (ps_ret (pe_op op_mod (pe_op op_add (pe_op op_fdiv (pe_ix ix_list (pv 0) pe_int (fun _ _ => rfl)) pe_int) (pe_op op_mul (pe_op op_mod (pe_ix ix_list (pv 0) pe_int (fun _ _ => rfl)) pe_int) pe_int)) (pv 1))))))))), ?_⟩
    obtain ⟨c, ns, i, a, b, e, hd, hc, hi⟩ := D
    have nc := dr_ne hd hc
    refine ⟨fun σ H' => ∃ y2 y3 y4, σ = [some (.ref d), some (.int n), y2, y3, y4] ∧ SmD d H H' ∧ Dr H' d, ?_, ?_⟩
    · refine ⟨_, rfl, d, _, 2, .int a, rfl, rfl, SqL.of hd, rfl, _, rfl, _, _, rfl, rfl, _, rfl, ite2 (fun t1 => ?_) (fun t1 => ?_)⟩
      · refine ⟨_, rfl, d, _, 1, .int i, rfl, rfl, SqL.of hd, rfl, _, rfl, d, _, 0, .ref c, rfl, rfl, SqL.of hd, rfl, c, _, rfl, .inl (SqL.of hc), _, _, rfl, rfl, _, rfl, ite2 (fun t2 => ?_) (fun t2 => ?_)⟩
        · have hil : i < (ns.length : Int) := by
            have := of_decide_eq_true t2
            rw [List.length_map] at this
            exact this
          obtain ⟨j, rfl⟩ := Int.eq_ofNat_of_zero_le hi
          have hjl : j < ns.length := by omega
          have hat : (ns.map V.int)[j]? = some (.int ns[j]) := by rw [List.getElem?_map, List.getElem?_eq_getElem hjl]; rfl
          refine ⟨_, rfl, d, _, 0, .ref c, rfl, rfl, SqL.of hd, rfl, _, rfl, d, _, 1, .int j, rfl, rfl, SqL.of hd, rfl, c, _, j, .int ns[j], rfl, rfl, SqL.of hc, atI_nat hat, ?_⟩
          generalize ns[j] = z
          refine ⟨_, rfl, d, _, 1, .int j, rfl, rfl, SqL.of hd, rfl, _, _, rfl, rfl, _, rfl, d, _, 1, 1, rfl, rfl, hd, rfl, ?_⟩
          have fin : ∀ (H2 : Hp) (z2 : Int), SmD d H H2 → H2 d = some (.lst [.ref c, .int ((j : Int) + 1), .int z2, .int b, .int e]) →
              ∃ H3, SmD d H H3 ∧ Dr H3 d ∧ H3 = upd H2 d (.lst ([.ref c, .int ((j : Int) + 1), .int z2, .int b, .int e].set 3 (.int ((b * 69621 + z % 998244353 + 1) % 2147483647)))) := fun H2 z2 s2 e2 =>
            ⟨_, s2.trans (SmD.upd e2), ⟨c, ns, _, _, _, _, upd_same, by rw [upd_ne nc]; exact s2.1 _ _ nc hc, by omega⟩, rfl⟩
          refine ⟨_, rfl, _, _, rfl, rfl, ⟨by decide, by decide, by decide⟩, _, _, rfl, rfl, _, rfl, ite2 (fun t3 => ?_) (fun t3 => ?_)⟩
          · refine ⟨_, rfl, _, rfl, d, _, 2, 2, rfl, rfl, upd_same, rfl, ?_⟩
            rw [L2.upd_upd]
            obtain ⟨H3, a1, a2, a3⟩ := fin (upd H d (.lst [.ref c, .int ((j : Int) + 1), .int z, .int b, .int e])) z (SmD.upd hd) upd_same
            refine ⟨_, rfl, d, _, 3, .int b, rfl, rfl, SqL.of upd_same, rfl, _, _, rfl, rfl, .inr ⟨by decide, by decide⟩, _, rfl, _, _, rfl, rfl, (by show (0 : Int) < 998244353; decide), _, _, rfl, rfl, _, _, rfl, rfl, _, _, rfl, rfl, (by show (0 : Int) < 2147483647; decide), _, rfl, d, _, 3, 3, rfl, rfl, upd_same, rfl, ?_⟩
            exact ⟨_, _, _, rfl, by rw [a3] at a1; exact a1, by rw [a3] at a2; exact a2⟩
          · refine ⟨_, rfl, d, _, 2, 2, rfl, rfl, upd_same, rfl, ?_⟩
            rw [L2.upd_upd]
            obtain ⟨H3, a1, a2, a3⟩ := fin (upd H d (.lst [.ref c, .int ((j : Int) + 1), .int 0, .int b, .int e])) 0 (SmD.upd hd) upd_same
            refine ⟨_, rfl, d, _, 3, .int b, rfl, rfl, SqL.of upd_same, rfl, _, _, rfl, rfl, .inr ⟨by decide, by decide⟩, _, rfl, _, _, rfl, rfl, (by show (0 : Int) < 998244353; decide), _, _, rfl, rfl, _, _, rfl, rfl, _, _, rfl, rfl, (by show (0 : Int) < 2147483647; decide), _, rfl, d, _, 3, 3, rfl, rfl, upd_same, rfl, ?_⟩
            exact ⟨_, _, _, rfl, by rw [a3] at a1; exact a1, by rw [a3] at a2; exact a2⟩
        · exact ⟨_, _, _, rfl, SmD.refl _ _, c, ns, i, a, b, e, hd, hc, hi⟩
      · exact iteF ⟨_, _, _, rfl, SmD.refl _ _, c, ns, i, a, b, e, hd, hc, hi⟩
    · rintro σ H1 ⟨y2, y3, y4, rfl, s1, c1, ns1, i1, a1, b1, e1, hd1, hc1, hi1⟩
      have nc1 := dr_ne hd1 hc1
      refine ⟨_, rfl, d, _, 2, .int a1, rfl, rfl, SqL.of hd1, rfl, _, rfl, _, _, rfl, rfl, _, rfl, ite2 (fun t1 => ?_) (fun t1 => ?_)⟩
      · refine ⟨_, rfl, d, _, 2, .int a1, rfl, rfl, SqL.of hd1, rfl, _, rfl, _, _, rfl, rfl, (by show 0 < n; omega), ?_⟩
        refine ⟨_, rfl, d, _, 2, .int a1, rfl, rfl, SqL.of hd1, rfl, _, rfl, _, _, rfl, rfl, ⟨by omega, by omega⟩, _, rfl, d, _, 2, 2, rfl, rfl, hd1, rfl, ?_⟩
        refine ⟨_, rfl, q _ _ (s1.trans (SmD.upd hd1)) ⟨c1, ns1, _, _, _, _, upd_same, by rw [upd_ne nc1]; exact hc1, hi1⟩ (Int.emod_nonneg _ (by omega)) (Int.emod_lt_of_pos _ (by omega))⟩
      · refine ⟨_, rfl, d, _, 4, .int e1, rfl, rfl, SqL.of hd1, rfl, _, _, rfl, rfl, _, rfl, d, _, 4, 4, rfl, rfl, hd1, rfl, ?_⟩
        have hd2 : (upd H1 d (.lst ([.ref c1, .int i1, .int a1, .int b1, .int e1].set 4 (.int (e1 + 1))))) d = some (.lst [.ref c1, .int i1, .int a1, .int b1, .int (e1 + 1)]) := upd_same
        refine ⟨_, rfl, d, _, 3, .int b1, rfl, rfl, SqL.of hd2, rfl, _, _, rfl, rfl, .inr ⟨by decide, by decide⟩, _, rfl, d, _, 4, .int (e1 + 1), rfl, rfl, SqL.of hd2, rfl, _, _, rfl, rfl, .inr ⟨by decide, by decide⟩, _, _, rfl, rfl, _, _, rfl, rfl, ?_⟩
        have m1 : 0 ≤ (b1 * 16807 + (e1 + 1) * 40692 + 7) % 65521 := Int.emod_nonneg _ (by decide)
        have m2 : (b1 * 16807 + (e1 + 1) * 40692 + 7) % 65521 < 65521 := Int.emod_lt_of_pos _ (by decide)
        refine ⟨_, rfl, _, rfl, _, _, rfl, rfl, (by show (0 : Int) < 65521; decide), _, _, rfl, rfl, _, _, rfl, rfl, .inr ⟨by show -(2 ^ 64) < (b1 * 16807 + (e1 + 1) * 40692 + 7) % 65521 + 3; omega, by show (b1 * 16807 + (e1 + 1) * 40692 + 7) % 65521 + 3 < 2 ^ 64; omega⟩, _, rfl, d, _, 4, .int (e1 + 1), rfl, rfl, SqL.of hd2, rfl, _, _, rfl, rfl, .inr ⟨by decide, by decide⟩, _, _, rfl, rfl, ?_⟩
        refine ⟨_, rfl, _, _, rfl, rfl, (by show (0 : Int) < 2147483629; decide), _, rfl, d, _, 3, 3, rfl, rfl, hd2, rfl, ?_⟩
        have hd3 : (upd (upd H1 d (.lst ([.ref c1, .int i1, .int a1, .int b1, .int e1].set 4 (.int (e1 + 1))))) d (.lst ([.ref c1, .int i1, .int a1, .int b1, .int (e1 + 1)].set 3 (.int (((b1 * 16807 + (e1 + 1) * 40692 + 7) * ((b1 * 16807 + (e1 + 1) * 40692 + 7) % 65521 + 3) + (e1 + 1) * 9176) % 2147483629))))) d = some (.lst [.ref c1, .int i1, .int a1, .int (((b1 * 16807 + (e1 + 1) * 40692 + 7) * ((b1 * 16807 + (e1 + 1) * 40692 + 7) % 65521 + 3) + (e1 + 1) * 9176) % 2147483629), .int (e1 + 1)]) := upd_same
        refine ⟨_, rfl, d, _, 3, .int (((b1 * 16807 + (e1 + 1) * 40692 + 7) * ((b1 * 16807 + (e1 + 1) * 40692 + 7) % 65521 + 3) + (e1 + 1) * 9176) % 2147483629), rfl, rfl, SqL.of hd3, rfl, _, _, rfl, rfl, ⟨by decide, by decide⟩, _, rfl, d, _, 3, .int (((b1 * 16807 + (e1 + 1) * 40692 + 7) * ((b1 * 16807 + (e1 + 1) * 40692 + 7) % 65521 + 3) + (e1 + 1) * 9176) % 2147483629), rfl, rfl, SqL.of hd3, rfl, _, _, rfl, rfl, (by show (0 : Int) < 8191; decide), _, _, rfl, rfl, .inr ⟨by decide, by decide⟩, _, _, rfl, rfl, _, rfl, _, _, rfl, rfl, (by show 0 < n; omega), ?_⟩
        refine q _ _ ((s1.trans (SmD.upd hd1)).trans (SmD.upd hd2)) ⟨c1, ns1, _, _, _, _, hd3, by rw [upd_ne nc1, upd_ne nc1]; exact hc1, hi1⟩ (Int.emod_nonneg _ (by omega)) (Int.emod_lt_of_pos _ (by omega))
end
end NC
namespace NC
open PySem PySem.Spec PyProof.Rows L2
def ltrs : List Nat := (List.range 26).map (· + 97)
theorem ltrs_eq : Str.ofString "abcdefghijklmnopqrstuvwxyz" = tx ltrs := by decide +kernel
theorem ltrs_at {i c : Nat} (h : ltrs[i]? = some c) : c = 97 + i ∧ i < 26 := by
  unfold ltrs at h
  rw [List.getElem?_map] at h
  obtain ⟨j, hj, e⟩ := Option.map_eq_some_iff.mp h
  obtain ⟨h1, h2⟩ := List.getElem?_eq_some_iff.mp hj
  rw [List.getElem_range] at h2
  rw [List.length_range] at h1
  omega
theorem smx_l {K : PySem.W.Frag} {d : Addr} {H H' : Hp} {a : Addr} {xs : List V} (e : SmX d H H') (n : a ≠ d) (h : SqL K H a xs) : SqL K H' a xs := by
  rcases h with (h | ⟨o, h⟩) | h
  · exact .inl (.inl (e _ _ n h))
  · exact .inl (.inr ⟨o, e _ _ n h⟩)
  · exact .inr h
section
variable {P : Program} {w : World} {K : PySem.W.Frag} {mg : Str → Option Value} {base : Heap}
def spStart (K : PySem.W.Frag) : Sp := fun vs H Q _ => ∃ (a : Addr) (ns : List Int), vs = [.ref a] ∧ SqL K H a (ns.map V.int) ∧ ∀ H' d, Same H H' → H d = none → Dr H' d → Q (.ref d) H'
theorem ok_start {f : Addr} {fd : FuncData} {k : Nat} (B : BM mg) (F : Fun K "_law_start" "_law_start" sStart f fd) : FnOk P w K mg base CX0 (k + 1) f fd ["_law_script"] (spStart K) := by
  refine F.ok scStart (fun vs H Q E h => ?_) (fun cdv A outer s H vs Q E hr h => ?_)
  · obtain ⟨a, ns, rfl, _⟩ := h
    rfl
  · obtain ⟨a, ns, rfl, hS, q⟩ := h
    refine ⟨_, pss_cons (ps_set (i := 1) scStart.nd rfl (.inl rfl) pe_int)
      (pss_cons (ps_for PassesOwn.never rfl (pi_list (pe_slice sl_list (pv 0) po_none (po_some pe_int))) (pg_name (i := 2) scStart.nd rfl (.inl rfl))
        (pss_one (ps_set (i := 1) scStart.nd rfl (.inl rfl) (pe_op op_mod (pe_op op_add (pe_op op_add (pe_op op_mul (pv 1) pe_int) (pe_op op_mod (pv 2) pe_int)) pe_int) pe_int))))
      (pss_one (ps_ret (pe_lst (pa_cons (pe_callTy call_list_of (by rfl) B.list (by decide +kernel) (pa_cons (pe_slice sl_list (pv 0) po_none (po_some pe_int)) pa_nil)) (pa_cons pe_int (pa_cons pe_int (pa_cons (pv 1) (pa_cons pe_int pa_nil))))))))), ?_⟩
    refine ⟨_, rfl, 63, rfl, a, _, rfl, hS, fun p np => ⟨p, rfl, ⟨_, SqL.of upd_same⟩, ?_⟩⟩
    have ec : cutV (ns.map V.int) none (some 63) = (ns.take 63).map V.int := by
      unfold cutV
      rw [HT.sIx_none, show HT.sIx (ns.map V.int).length (ns.map V.int).length (some 63) = min 63 (ns.map V.int).length from HT.sIx_nat _ _ 63, List.drop_zero, Nat.sub_zero, List.map_take, List.length_map]
      rcases Nat.le_total 63 ns.length with h | h
      · rw [Nat.min_eq_left h]
      · rw [Nat.min_eq_right h, List.take_of_length_le (by rw [List.length_map]; exact Nat.le_refl _), List.take_of_length_le (by rw [List.length_map]; exact h)]
    rw [ec]
    have wk := walk_list (K := K) (a := p) (xs := (ns.take 63).map V.int)
    refine for_it wk (fun i σ H' => ∃ (z : Int) (y2 : Option V), σ = [some (.ref a), some (.int z), y2] ∧ Same H H' ∧ H' p = some (.lst ((ns.take 63).map V.int))) ⟨_, _, rfl, same_upd np, upd_same⟩
      (fun i σ H' _ h => by obtain ⟨_, _, _, _, h⟩ := h; exact SqL.of h) ?_ ?_
    · rintro i x σ H1 H2 hi ⟨z, y2, rfl, sm, ep⟩ ⟨rfl, hx⟩
      rw [List.getElem?_map] at hx
      obtain ⟨c, hc, rfl⟩ := Option.map_eq_some_iff.mp hx
      exact ⟨_, rfl, _, _, rfl, rfl, .inr ⟨by decide, by decide⟩, _, rfl, _, _, rfl, rfl, (by show (0 : Int) < 1000003; decide), _, _, rfl, rfl, _, _, rfl, rfl, _, _, rfl, rfl, (by show (0 : Int) < 2147483647; decide), _, _, rfl, sm, ep⟩
    · rintro σ H1 ⟨z, y2, rfl, sm, ep⟩
      refine ⟨_, rfl, 63, rfl, a, _, rfl, sm_l sm hS, fun p2 np2 => ⟨p2, _, rfl, .inl (SqL.of upd_same), fun p3 np3 => ?_⟩⟩
      rw [ec] at np3 ⊢
      have s3 := sm_upd (o := .lst ((ns.take 63).map V.int)) (sm_upd (o := .lst ((ns.take 63).map V.int)) sm np2) np3
      refine ⟨_, rfl, by show 5 ≤ sizeLine; decide, fun d nd => ?_⟩
      have n3 : p3 ≠ d := ne_of_none upd_same nd
      exact q _ d (sm_upd s3 nd) (L2.Same.free s3 nd) ⟨p3, ns.take 63, 0, 0, _, 0, upd_same, by rw [upd_ne n3, upd_same], Int.le_refl _⟩
def spOf (K : PySem.W.Frag) : Sp := fun vs H Q _ => ∃ d x, vs = [.ref d, x] ∧ Dr H d ∧
  ((∃ a xs, x = .ref a ∧ a ≠ d ∧ SqL K H a xs ∧ 1 ≤ xs.length ∧ xs.length ≤ 1000 ∧ ∀ H' v (i : Nat), SmD d H H' → Dr H' d → xs[i]? = some v → Q v H') ∨
    ∃ l : List Nat, x = .str (tx l) ∧ 1 ≤ l.length ∧ l.length ≤ 1000 ∧ ∀ H' c, SmD d H H' → Dr H' d → c ∈ l → Q (.str (sg c)) H')
theorem ok_of {f fD : Addr} {fd fdD : FuncData} {k : Nat} (B : BM mg) (F : Fun K "_law_of" "_law_of" sOf f fd) (D : DF K mg "_law_draw" sDraw ["_law_d", "_law_many"] fD fdD) : FnOk P w K mg base CX0 (k + 2) f fd ["_law_d", "_law_some"] (spOf K) := by
  have GD : FnOk P w K mg base CX0 (k + 1) fD fdD ["_law_d", "_law_many"] spDraw := ok_draw B D.F
  refine F.ok scOf (fun vs H Q E h => ?_) (fun cdv A outer s H vs Q E hr h => ?_)
  · obtain ⟨d, x, rfl, _⟩ := h
    rfl
  · obtain ⟨d, x, rfl, hD, h⟩ := h
    refine ⟨_, pss_one (ps_ret (pe_ix (IxR.or ix_list ix_str) (pv 1) (pe_call GD hr rfl D.g D.F.kp D.b .nil pass0 (pa_cons (pv 0) (pa_cons (pe_callB (CallR.or call_len_seq call_len_str) (by rfl) B.len PySem.boot_len (pa_cons (pv 1) pa_nil)) pa_nil))) (fun _ _ => rfl))), ?_⟩
    rcases h with ⟨a, xs, rfl, nd, hS, h1, h2, q⟩ | ⟨l, rfl, h1, h2, q⟩
    · refine ⟨_, rfl, _, rfl, _, rfl, .inl ⟨a, xs, rfl, .inl hS, d, _, rfl, hD, by omega, by omega, fun H1 v s1 D1 v0 v1 => ?_⟩⟩
      obtain ⟨j, rfl⟩ := Int.eq_ofNat_of_zero_le v0
      have hj : j < xs.length := by omega
      exact .inl ⟨a, xs, j, xs[j], rfl, rfl, smx_l s1.1 nd hS, atI_nat (List.getElem?_eq_getElem hj), q H1 _ j s1 D1 (List.getElem?_eq_getElem hj)⟩
    · have hz : (tx l).length ≤ sizeLine := by rw [tx_len, sizeLine_eq]; omega
      refine ⟨_, rfl, _, rfl, _, rfl, .inr ⟨tx l, rfl, hz, d, _, rfl, hD, by rw [tx_len]; omega, by rw [tx_len]; omega, fun H1 v s1 D1 v0 v1 => ?_⟩⟩
      obtain ⟨j, rfl⟩ := Int.eq_ofNat_of_zero_le v0
      have hj : j < l.length := by rw [tx_len] at v1; omega
      exact .inr ⟨tx l, j, l[j], rfl, rfl, hz, by rw [tx_list]; exact atI_nat (List.getElem?_eq_getElem hj), q H1 _ s1 D1 (List.getElem_mem hj)⟩
theorem ok_letters {f : Addr} {fd : FuncData} {k : Nat} (F : Fun K "_law_letters" "_law_letters" sLetters f fd) : FnOk P w K mg base CX0 (k + 1) f fd [] (fun vs H Q _ => vs = [] ∧ Q (.str (tx ltrs)) H) := by
  refine F.ok scLetters (fun vs H Q E h => ?_) (fun cdv A outer s H vs Q E hr h => ?_)
  · obtain ⟨rfl, _⟩ := h
    rfl
  · obtain ⟨rfl, q⟩ := h
    refine ⟨_, pss_one (ps_ret pe_str), ?_⟩
    show Q (.str (Str.ofString "abcdefghijklmnopqrstuvwxyz")) H
    rw [ltrs_eq]
    exact q
end
end NC
namespace NC
open PySem PySem.Spec PyProof.Rows L2
theorem Dr.cell {H : Hp} {d c : Addr} (h : Dr H d) (hc : HeadC H d c) : ∃ ns : List Int, H c = some (.lst (ns.map V.int)) := by
  obtain ⟨c0, ns, i, a, b, f, h1, h2, h3⟩ := h
  obtain ⟨r, e⟩ := hc
  rw [h1] at e
  have e2 : c0 = c := by
    injection e with e
    injection e with e
    injection e with e _
    injection e
  exact ⟨ns, by rw [← e2]; exact h2⟩
theorem Dr.upd {H : Hp} {d c b : Addr} {o : HO} (h : Dr H d) (hc : HeadC H d c) (n1 : b ≠ d) (n2 : b ≠ c) : Dr (L2.upd H b o) d := by
  obtain ⟨c0, ns, i, a, b2, f, h1, h2, h3⟩ := h
  obtain ⟨r, e⟩ := hc
  rw [h1] at e
  have e2 : c0 = c := by
    injection e with e
    injection e with e
    injection e with e _
    injection e
  exact ⟨c0, ns, i, a, b2, f, by rw [upd_ne (Ne.symm n1)]; exact h1, by rw [e2, upd_ne (Ne.symm n2), ← e2]; exact h2, h3⟩
theorem Dr.head {H : Hp} {d : Addr} (h : Dr H d) : ∃ c, HeadC H d c := by
  obtain ⟨c0, ns, i, a, b2, f, h1, h2, h3⟩ := h
  exact ⟨c0, _, h1⟩
theorem HeadC.upd {H : Hp} {d c b : Addr} {o : HO} (h : HeadC H d c) (n1 : b ≠ d) : HeadC (L2.upd H b o) d c := by
  obtain ⟨r, h⟩ := h
  exact ⟨r, by rw [upd_ne (Ne.symm n1)]; exact h⟩
theorem Dr.ne {H : Hp} {d p : Addr} (D : Dr H d) (n : H p = none) : p ≠ d := by
  obtain ⟨c0, r0, hd⟩ := D.head
  exact Ne.symm (ne_of_none hd n)
theorem smd_free {d p : Addr} {H H1 : Hp} (u : SmD d H H1) (D1 : Dr H1 d) (n : H1 p = none) : H p = none := by
  cases hz : H p with
  | none => rfl
  | some o => rw [u.1 _ _ (D1.ne n) hz] at n; cases n
theorem ds_over {d p : Addr} {H H' : Hp} {o : HO} (D : Dr H d) (u : SmD d H H') (D' : Dr H' d) (np : H p = none) : SmD d H (upd H' p o) ∧ Dr (upd H' p o) d := by
  have nd := D.ne np
  obtain ⟨c0, hc0⟩ := D.head
  obtain ⟨ns, hcell⟩ := D.cell hc0
  have nc : p ≠ c0 := Ne.symm (ne_of_none hcell np)
  refine ⟨⟨fun b o' nb hb => ?_, fun c hc => (u.2 c hc).upd nd⟩, D'.upd (u.2 _ hc0) nd nc⟩
  rw [upd_ne (ne_of_none hb np)]
  exact u.1 b o' nb hb
theorem Dr.o {H : Hp} {d : Addr} (h : Dr H d) : ∃ xs, H d = some (.lst xs) := by
  obtain ⟨c0, ns, i, a, b, f, h1, h2, h3⟩ := h
  exact ⟨_, h1⟩
end NC
namespace NC
open PySem PySem.Spec PyProof.Rows L2
inductive Stp where
  | call (s : List Nat)
  | turn (s : List Nat)
  | row (n : List Nat)
  | times (m : Nat) (r : List Stp)
def smN : List Nat := (Str.ofString "abcdefghijklmnopqrstuvwxyz").cps.toList
def ltN : List Nat := (Str.ofString "abcdefghijklmnopqrstuvwxyzABCDEFGHIJKLMNOPQRSTUVWXYZ").cps.toList
theorem smN_eq : smN = List.range' 97 26 := by decide +kernel
theorem ltN_eq : ltN = List.range' 97 26 ++ List.range' 65 26 := by decide +kernel
theorem smN_iff (c : Nat) : c ∈ smN ↔ 97 ≤ c ∧ c ≤ 122 := by
  rw [smN_eq, List.mem_range'_1]; omega
theorem ltN_iff (c : Nat) : c ∈ ltN ↔ (97 ≤ c ∧ c ≤ 122) ∨ (65 ≤ c ∧ c ≤ 90) := by
  rw [ltN_eq, List.mem_append, List.mem_range'_1, List.mem_range'_1]; omega
mutual
def wfS : Stp → Bool
  | .call s => decide (s.length ≤ 12) && s.all fun c => decide (c ∈ ltN)
  | .turn s => decide (1 ≤ s.length) && decide (s.length ≤ 12) && s.all fun c => decide (c ∈ ltN)
  | .row n => decide (1 ≤ n.length) && decide (n.length ≤ 8) && n.all fun c => decide (c ∈ smN)
  | .times m r => decide (m ≤ 10 ^ 30) && wfR r
def wfR : List Stp → Bool
  | [] => true
  | s :: r => wfS s && wfR r
end
mutual
def szS : Stp → Nat
  | .times _ r => szR r + 1
  | _ => 1
def szR : List Stp → Nat
  | [] => 0
  | s :: r => szS s + szR r
end
mutual
def dpS : Stp → Nat
  | .times _ r => dpR r + 1
  | _ => 0
def dpR : List Stp → Nat
  | [] => 0
  | s :: r => max (dpS s) (dpR r)
end
mutual
def encS : Stp → PyData
  | .call s => .tuple [.str "call", .str (tx s)]
  | .turn s => .tuple [.str "turn", .str (tx s)]
  | .row n => .tuple [.str "row", .str (tx n)]
  | .times m r => .tuple [.str "times", .int (m : Nat), .tuple [.str "steps", .tuple (encL r)]]
def encL : List Stp → List PyData
  | [] => []
  | s :: r => encS s :: encL r
end
def encR (r : List Stp) : PyData := .tuple [.str "steps", .tuple (encL r)]
theorem encL_map : ∀ r : List Stp, encL r = r.map encS
  | [] => rfl
  | s :: r => by rw [encL, encL_map r]; rfl
theorem encL_len (r : List Stp) : (encL r).length = r.length := by rw [encL_map, List.length_map]
theorem wfR_mem : ∀ {r : List Stp}, wfR r = true → ∀ s ∈ r, wfS s = true
  | s :: r, h, x, hx => by
    rw [wfR, Bool.and_eq_true] at h
    rcases List.mem_cons.mp hx with rfl | hx
    · exact h.1
    · exact wfR_mem h.2 x hx
theorem wfR_of : ∀ {r : List Stp}, (∀ s ∈ r, wfS s = true) → wfR r = true
  | [], _ => by rw [wfR]
  | s :: r, h => by
    rw [wfR, h s (List.mem_cons_self ..), wfR_of fun x hx => h x (List.mem_cons_of_mem _ hx)]
    rfl
theorem dpR_mem : ∀ {r : List Stp} {s : Stp}, s ∈ r → dpS s ≤ dpR r
  | x :: r, s, h => by
    rw [dpR]
    rcases List.mem_cons.mp h with rfl | h
    · omega
    · have := dpR_mem h
      omega
theorem dpR_le : ∀ {r : List Stp} {n : Nat}, (∀ s ∈ r, dpS s ≤ n) → dpR r ≤ n
  | [], n, _ => by rw [dpR]; omega
  | s :: r, n, h => by
    rw [dpR]
    have := h s (List.mem_cons_self ..)
    have := dpR_le fun x hx => h x (List.mem_cons_of_mem _ hx)
    omega
theorem szS_pos : ∀ s : Stp, 1 ≤ szS s
  | .call _ => by rw [szS] <;> simp
  | .turn _ => by rw [szS] <;> simp
  | .row _ => by rw [szS] <;> simp
  | .times _ r => by rw [szS]; omega
theorem szR_len : ∀ r : List Stp, r.length ≤ szR r
  | [] => Nat.zero_le _
  | s :: r => by
    rw [szR, List.length_cons]
    have := szS_pos s
    have := szR_len r
    omega
def isWordD (z : Str) (lo hi : Int) : PyData → Bool
  | .str s => (decide (lo ≤ (s.length : Int)) && decide ((s.length : Int) ≤ hi)) && s.cps.toList.all fun c => decide (c ∈ z.cps.toList)
  | _ => false
def isNumD (most : Int) : PyData → Bool
  | .int i => decide (0 ≤ i) && decide (i ≤ most)
  | _ => false
def isTupD (n : Int) : PyData → Bool
  | .tuple xs => decide ((xs.length : Int) = n)
  | _ => false
def SM : Str := "abcdefghijklmnopqrstuvwxyz"
def LT : Str := "abcdefghijklmnopqrstuvwxyzABCDEFGHIJKLMNOPQRSTUVWXYZ"
def isNameD : PyData → Bool := isWordD SM 1 8
def eqStr (d : PyData) (x : Str) : Bool := PyData.eqv d (.str x)
def plainD : PyData → Bool
  | .tuple [a, b] => if eqStr a "call" = true then isWordD LT 0 12 b else if eqStr a "turn" = true then isWordD LT 1 12 b else eqStr a "row" && isNameD b
  | _ => false
def headD : PyData → Bool
  | .tuple [a, b, _] => eqStr a "times" && isNumD (10 ^ 30) b
  | _ => false
def thirdD : PyData → PyData
  | .tuple [_, _, c] => c
  | _ => .none
/-- behind some steps -/
def lbL (S : PyData → Int → Int) : List PyData → Int → Int
  | [], l => l
  | x :: xs, l => if S x l < 0 then -1 else lbL S xs (S x l)
def lbRof (S : PyData → Int → Int) : PyData → Int → Int
  | .tuple [a, .tuple xs], l => if eqStr a "steps" = true then lbL S xs l else -1
  | _, _ => -1
/-- with n groups more within one another let by -/
def lbS : Nat → PyData → Int → Int
  | 0, d, l => if plainD d = true then l - 1 else -1
  | n + 1, d, l => if plainD d = true then l - 1 else if headD d = true then lbRof (lbS n) (thirdD d) (l - 1) else -1
def lbR (n : Nat) : PyData → Int → Int := lbRof (lbS n)
def isRowD (d : PyData) : Bool := decide (0 ≤ lbR 12 d 60)
theorem eqStr_iff (d : PyData) (x : Str) : eqStr d x = true ↔ d = .str x := by
  unfold eqStr
  cases d with
  | str s =>
    by_cases h : s = x
    · subst h; simp [PyData.eqv]
    · simp [PyData.eqv, h]
  | none => simp [PyData.eqv]
  | bool b => simp [PyData.eqv]
  | int i => simp [PyData.eqv]
  | list xs => simp [PyData.eqv]
  | tuple xs => simp [PyData.eqv]
  | dict kvs => simp [PyData.eqv]
theorem str_tx {s : Str} : tx s.cps.toList = s := by
  cases s with
  | mk a => show (⟨a.toList.toArray⟩ : Str) = _; simp
theorem word_enc {z : Str} {lo hi : Nat} {d : PyData} : isWordD z lo hi d = true ↔ ∃ s : List Nat, d = .str (tx s) ∧ lo ≤ s.length ∧ s.length ≤ hi ∧ ∀ c ∈ s, c ∈ z.cps.toList := by
  constructor
  · intro h
    cases d with
    | str s =>
      simp only [isWordD, Bool.and_eq_true, decide_eq_true_eq, List.all_eq_true] at h
      have e : s.cps.toList.length = s.length := by simp [Str.length]
      exact ⟨s.cps.toList, by rw [str_tx], by omega, by omega, h.2⟩
    | none => simp [isWordD] at h
    | bool b => simp [isWordD] at h
    | int i => simp [isWordD] at h
    | list xs => simp [isWordD] at h
    | tuple xs => simp [isWordD] at h
    | dict kvs => simp [isWordD] at h
  · rintro ⟨s, rfl, h1, h2, h3⟩
    simp only [isWordD, Bool.and_eq_true, decide_eq_true_eq, List.all_eq_true, tx_len, tx_list]
    exact ⟨⟨by omega, by omega⟩, h3⟩
theorem all_dec {l z : List Nat} : (l.all fun c => decide (c ∈ z)) = true ↔ ∀ c ∈ l, c ∈ z := by
  rw [List.all_eq_true]
  exact ⟨fun h c hc => of_decide_eq_true (h c hc), fun h c hc => decide_eq_true (h c hc)⟩
theorem plain_enc {d : PyData} : plainD d = true ↔ ∃ s, d = encS s ∧ wfS s = true ∧ dpS s = 0 ∧ szS s = 1 ∧ ∀ m r, s ≠ .times m r := by
  constructor
  · intro h
    unfold plainD at h
    split at h
    · rename_i a b
      split at h
      · rename_i e
        obtain ⟨s, rfl, h1, h2, h3⟩ := (word_enc (lo := 0) (hi := 12)).mp h
        rw [(eqStr_iff a "call").mp e]
        exact ⟨.call s, by rw [encS], by rw [wfS, decide_eq_true h2]; exact all_dec.mpr h3, by rw [dpS] <;> simp, by rw [szS] <;> simp, by simp⟩
      · split at h
        · rename_i e
          obtain ⟨s, rfl, h1, h2, h3⟩ := (word_enc (lo := 1) (hi := 12)).mp h
          rw [(eqStr_iff a "turn").mp e]
          exact ⟨.turn s, by rw [encS], by rw [wfS, decide_eq_true h1, decide_eq_true h2]; exact all_dec.mpr h3, by rw [dpS] <;> simp, by rw [szS] <;> simp, by simp⟩
        · rw [Bool.and_eq_true] at h
          obtain ⟨s, rfl, h1, h2, h3⟩ := (word_enc (lo := 1) (hi := 8)).mp h.2
          rw [(eqStr_iff a "row").mp h.1]
          exact ⟨.row s, by rw [encS], by rw [wfS, decide_eq_true h1, decide_eq_true h2]; exact all_dec.mpr h3, by rw [dpS] <;> simp, by rw [szS] <;> simp, by simp⟩
    · cases h
  · rintro ⟨s, rfl, hw, _, _, hn⟩
    cases s with
    | call s =>
      rw [wfS, Bool.and_eq_true, decide_eq_true_eq] at hw
      rw [encS]
      show (if eqStr (.str "call") "call" = true then isWordD LT 0 12 (.str (tx s)) else if eqStr (.str "call") "turn" = true then isWordD LT 1 12 (.str (tx s)) else eqStr (.str "call") "row" && isNameD (.str (tx s))) = true
      rw [if_pos ((eqStr_iff _ _).mpr rfl)]
      exact (word_enc (lo := 0) (hi := 12)).mpr ⟨s, rfl, Nat.zero_le _, hw.1, all_dec.mp hw.2⟩
    | turn s =>
      rw [wfS, Bool.and_eq_true, Bool.and_eq_true, decide_eq_true_eq, decide_eq_true_eq] at hw
      rw [encS]
      show (if eqStr (.str "turn") "call" = true then isWordD LT 0 12 (.str (tx s)) else if eqStr (.str "turn") "turn" = true then isWordD LT 1 12 (.str (tx s)) else eqStr (.str "turn") "row" && isNameD (.str (tx s))) = true
      rw [if_neg (fun z => by have := (eqStr_iff _ _).mp z; injection this with e; revert e; decide +kernel), if_pos ((eqStr_iff _ _).mpr rfl)]
      exact (word_enc (lo := 1) (hi := 12)).mpr ⟨s, rfl, hw.1.1, hw.1.2, all_dec.mp hw.2⟩
    | row s =>
      rw [wfS, Bool.and_eq_true, Bool.and_eq_true, decide_eq_true_eq, decide_eq_true_eq] at hw
      rw [encS]
      show (if eqStr (.str "row") "call" = true then isWordD LT 0 12 (.str (tx s)) else if eqStr (.str "row") "turn" = true then isWordD LT 1 12 (.str (tx s)) else eqStr (.str "row") "row" && isNameD (.str (tx s))) = true
      rw [if_neg (fun z => by have := (eqStr_iff _ _).mp z; injection this with e; revert e; decide +kernel), if_neg (fun z => by have := (eqStr_iff _ _).mp z; injection this with e; revert e; decide +kernel), (eqStr_iff _ _).mpr rfl, Bool.true_and]
      exact (word_enc (lo := 1) (hi := 8)).mpr ⟨s, rfl, hw.1.1, hw.1.2, all_dec.mp hw.2⟩
    | times m r => exact absurd rfl (hn m r)
theorem plain_times (m : Nat) (r : List Stp) : plainD (encS (.times m r)) = false := by
  rw [encS]
  rfl
theorem head_enc {d : PyData} : headD d = true ↔ ∃ (m : Nat) (c : PyData), d = .tuple [.str "times", .int (m : Nat), c] ∧ m ≤ 10 ^ 30 := by
  constructor
  · intro h
    unfold headD at h
    split at h
    · rename_i a b c
      rw [Bool.and_eq_true] at h
      cases b with
      | int i =>
        have h2 := h.2
        simp only [isNumD, Bool.and_eq_true, decide_eq_true_eq] at h2
        obtain ⟨m, rfl⟩ : ∃ m : Nat, i = (m : Int) := ⟨i.toNat, by omega⟩
        exact ⟨m, c, by rw [(eqStr_iff a "times").mp h.1], by omega⟩
      | str s => exact absurd h.2 (by simp [isNumD])
      | none => exact absurd h.2 (by simp [isNumD])
      | bool b => exact absurd h.2 (by simp [isNumD])
      | list xs => exact absurd h.2 (by simp [isNumD])
      | tuple xs => exact absurd h.2 (by simp [isNumD])
      | dict kvs => exact absurd h.2 (by simp [isNumD])
    · cases h
  · rintro ⟨m, c, rfl, h⟩
    show (eqStr (.str "times") "times" && isNumD (10 ^ 30) (.int (m : Nat))) = true
    rw [(eqStr_iff _ _).mpr rfl, Bool.true_and]
    show (decide (0 ≤ ((m : Nat) : Int)) && decide (((m : Nat) : Int) ≤ 10 ^ 30)) = true
    rw [decide_eq_true (Int.natCast_nonneg m), decide_eq_true (by omega)]
    rfl
theorem lb_sound : ∀ n d l, 0 ≤ lbS n d l → ∃ s, d = encS s ∧ wfS s = true ∧ dpS s ≤ n ∧ lbS n d l = l - szS s := by
  have plain : ∀ d (l : Int), plainD d = true → ∀ n, ∃ s, d = encS s ∧ wfS s = true ∧ dpS s ≤ n ∧ l - 1 = l - szS s := fun d l hp n => by
    obtain ⟨s, rfl, w, z, y, _⟩ := plain_enc.mp hp
    exact ⟨s, rfl, w, by omega, by rw [y]; rfl⟩
  have list : ∀ n, (∀ d l, 0 ≤ lbS n d l → ∃ s, d = encS s ∧ wfS s = true ∧ dpS s ≤ n ∧ lbS n d l = l - szS s) → ∀ xs l, 0 ≤ lbL (lbS n) xs l → ∃ r, xs = encL r ∧ wfR r = true ∧ dpR r ≤ n ∧ lbL (lbS n) xs l = l - szR r := fun n ih xs => by
    induction xs with
    | nil =>
      intro l _
      refine ⟨[], by rw [encL], by rw [wfR], by rw [dpR]; omega, ?_⟩
      rw [szR]
      show l = l - 0
      omega
    | cons x xs ih2 =>
      intro l h
      rw [lbL] at h ⊢
      split at h
      · omega
      · rename_i h0
        rw [if_neg h0]
        obtain ⟨s, rfl, w, dp, e⟩ := ih x l (by omega)
        obtain ⟨r, rfl, w2, dp2, e2⟩ := ih2 _ h
        refine ⟨s :: r, by rw [encL], by rw [wfR, w, w2]; rfl, by rw [dpR]; omega, ?_⟩
        rw [szR, e2, e]
        omega
  intro n
  induction n with
  | zero =>
    intro d l h
    rw [lbS] at h ⊢
    split at h
    · rename_i hp
      rw [if_pos hp]
      exact plain d l hp 0
    · omega
  | succ n ih =>
    intro d l h
    rw [lbS] at h ⊢
    split at h
    · rename_i hp
      rw [if_pos hp]
      exact plain d l hp _
    · rename_i hp
      rw [if_neg hp]
      split at h
      · rename_i hh
        rw [if_pos hh]
        obtain ⟨m, c, rfl, hm⟩ := head_enc.mp hh
        rw [show thirdD (.tuple [.str "times", .int (m : Nat), c]) = c from rfl] at h ⊢
        unfold lbRof at h ⊢
        split at h
        · rename_i a xs
          split at h
          · rename_i hs
            rw [if_pos hs]
            obtain ⟨r, rfl, w, dp, e⟩ := list n ih xs _ h
            refine ⟨.times m r, by rw [encS, (eqStr_iff a "steps").mp hs], by rw [wfS, decide_eq_true hm, w]; rfl, by rw [dpS]; omega, ?_⟩
            rw [szS, e]
            omega
          · omega
        · omega
      · omega
theorem lb_list : ∀ n xs l, 0 ≤ lbL (lbS n) xs l → ∃ r, xs = encL r ∧ wfR r = true ∧ dpR r ≤ n ∧ lbL (lbS n) xs l = l - szR r := fun n xs => by
  induction xs with
  | nil =>
    intro l _
    refine ⟨[], by rw [encL], by rw [wfR], by rw [dpR]; omega, ?_⟩
    rw [szR]
    show l = l - 0
    omega
  | cons x xs ih2 =>
    intro l h
    rw [lbL] at h ⊢
    split at h
    · omega
    · rename_i h0
      rw [if_neg h0]
      obtain ⟨s, rfl, w, dp, e⟩ := lb_sound n x l (by omega)
      obtain ⟨r, rfl, w2, dp2, e2⟩ := ih2 _ h
      refine ⟨s :: r, by rw [encL], by rw [wfR, w, w2]; rfl, by rw [dpR]; omega, ?_⟩
      rw [szR, e2, e]
      omega
mutual
theorem lb_compS : ∀ (s : Stp) (n : Nat) (l : Int), wfS s = true → dpS s ≤ n → (szS s : Int) ≤ l → lbS n (encS s) l = l - szS s
  | .times m r, n, l, w, dp, sz => by
    rw [dpS] at dp
    rw [wfS, Bool.and_eq_true, decide_eq_true_eq] at w
    rw [szS] at sz ⊢
    match n, dp with
    | n + 1, dp =>
      rw [lbS, plain_times, if_neg (by simp), if_pos (head_enc.mpr ⟨m, _, by rw [encS], w.1⟩)]
      rw [show thirdD (encS (.times m r)) = .tuple [.str "steps", .tuple (encL r)] by rw [encS]; rfl]
      show (if eqStr (.str "steps") "steps" = true then lbL (lbS n) (encL r) (l - 1) else -1) = _
      rw [if_pos ((eqStr_iff _ _).mpr rfl), lb_compL r n (l - 1) w.2 (by omega) (by omega)]
      omega
  | .call s, n, l, w, dp, sz => by
    have p := plain_enc.mpr ⟨.call s, rfl, w, by rw [dpS] <;> simp, by rw [szS] <;> simp, by simp⟩
    rw [szS] <;> try simp
    cases n <;> rw [lbS, if_pos p]
  | .turn s, n, l, w, dp, sz => by
    have p := plain_enc.mpr ⟨.turn s, rfl, w, by rw [dpS] <;> simp, by rw [szS] <;> simp, by simp⟩
    rw [szS] <;> try simp
    cases n <;> rw [lbS, if_pos p]
  | .row s, n, l, w, dp, sz => by
    have p := plain_enc.mpr ⟨.row s, rfl, w, by rw [dpS] <;> simp, by rw [szS] <;> simp, by simp⟩
    rw [szS] <;> try simp
    cases n <;> rw [lbS, if_pos p]
theorem lb_compL : ∀ (r : List Stp) (n : Nat) (l : Int), wfR r = true → dpR r ≤ n → (szR r : Int) ≤ l → lbL (lbS n) (encL r) l = l - szR r
  | [], n, l, w, dp, sz => by
    rw [encL, szR]
    show l = l - 0
    omega
  | s :: r, n, l, w, dp, sz => by
    rw [wfR, Bool.and_eq_true] at w
    rw [dpR] at dp
    rw [szR] at sz ⊢
    rw [encL, lbL, lb_compS s n l w.1 (by omega) (by omega), if_neg (by omega), lb_compL r n _ w.2 (by omega) (by omega)]
    omega
end
theorem row_iff (d : PyData) : isRowD d = true ↔ ∃ r, d = encR r ∧ wfR r = true ∧ dpR r ≤ 12 ∧ szR r ≤ 60 := by
  unfold isRowD
  rw [decide_eq_true_eq]
  constructor
  · intro h
    unfold lbR lbRof at h
    split at h
    · rename_i a xs
      split at h
      · rename_i hs
        obtain ⟨r, rfl, w, dp, e⟩ := lb_list 12 xs _ h
        exact ⟨r, by rw [(eqStr_iff a "steps").mp hs]; rfl, w, dp, by omega⟩
      · omega
    · omega
  · rintro ⟨r, rfl, w, dp, sz⟩
    show 0 ≤ (if eqStr (.str "steps") "steps" = true then lbL (lbS 12) (encL r) 60 else -1)
    rw [if_pos ((eqStr_iff _ _).mpr rfl), lb_compL r 12 60 w dp (by omega)]
    omega
end NC
namespace NC
open PySem PySem.Spec PyProof.Rows L2
abbrev sIsWord : Stmt := topS 15
theorem scIsWord : FnScope ["thing", "letters", "fewest", "most", "sign"] ["thing", "letters", "fewest", "most"] (defScope sIsWord) := ⟨rfl, rfl, rfl, by decide +kernel, rfl, by decide +kernel, by decide +kernel⟩
abbrev sIsName : Stmt := topS 16
theorem scIsName : FnScope ["thing"] ["thing"] (defScope sIsName) := ⟨rfl, rfl, rfl, by decide +kernel, rfl, by decide +kernel, by decide +kernel⟩
abbrev sIsNum : Stmt := topS 17
theorem scIsNum : FnScope ["thing", "most"] ["thing", "most"] (defScope sIsNum) := ⟨rfl, rfl, rfl, by decide +kernel, rfl, by decide +kernel, by decide +kernel⟩
abbrev sIsTup : Stmt := topS 18
theorem scIsTup : FnScope ["thing", "many"] ["thing", "many"] (defScope sIsTup) := ⟨rfl, rfl, rfl, by decide +kernel, rfl, by decide +kernel, by decide +kernel⟩
abbrev sIsPlain : Stmt := topS 19
theorem scIsPlain : FnScope ["step"] ["step"] (defScope sIsPlain) := ⟨rfl, rfl, rfl, by decide +kernel, rfl, by decide +kernel, by decide +kernel⟩
abbrev sIsHead : Stmt := topS 20
theorem scIsHead : FnScope ["step"] ["step"] (defScope sIsHead) := ⟨rfl, rfl, rfl, by decide +kernel, rfl, by decide +kernel, by decide +kernel⟩
abbrev sLbS : Stmt := topS 21
theorem scLbS : FnScope ["step", "deep", "left"] ["step", "deep", "left"] (defScope sLbS) := ⟨rfl, rfl, rfl, by decide +kernel, rfl, by decide +kernel, by decide +kernel⟩
abbrev sLb : Stmt := topS 22
theorem scLb : FnScope ["row", "deep", "left", "step"] ["row", "deep", "left"] (defScope sLb) := ⟨rfl, rfl, rfl, by decide +kernel, rfl, by decide +kernel, by decide +kernel⟩
abbrev sIsRow : Stmt := topS 23
theorem scIsRow : FnScope ["tree"] ["tree"] (defScope sIsRow) := ⟨rfl, rfl, rfl, by decide +kernel, rfl, by decide +kernel, by decide +kernel⟩
theorem boot_isi : bootBuiltins "isinstance" = some (.builtin "isinstance") := PyProof.Rows.boot_isinstance
mutual
theorem dp_same {K : PySem.W.Frag} {H H' : Hp} (s : Same H H') : ∀ {v : V} {d : PyData}, Dp K H v d → Dp K H' v d
  | _, _, .non => .non
  | _, _, .bl b => .bl b
  | _, _, .int i => .int i
  | _, _, .str x => .str x
  | _, _, .lst h a => .lst (sm_l s h) (dpa_same s a)
  | _, _, .tup h a => .tup (sm_t s h) (dpa_same s a)
theorem dpa_same {K : PySem.W.Frag} {H H' : Hp} (s : Same H H') : ∀ {vs : List V} {ds : List PyData}, DpAll K H vs ds → DpAll K H' vs ds
  | _, _, .nil => .nil
  | _, _, .cons a b => .cons (dp_same s a) (dpa_same s b)
end
theorem dpa_len {K : PySem.W.Frag} {H : Hp} : ∀ {vs : List V} {ds : List PyData}, DpAll K H vs ds → vs.length = ds.length
  | _, _, .nil => rfl
  | _, _, .cons a b => by rw [List.length_cons, List.length_cons, dpa_len b]
theorem dpa_get {K : PySem.W.Frag} {H : Hp} : ∀ {vs : List V} {ds : List PyData}, DpAll K H vs ds → ∀ {i : Nat} {v : V}, vs[i]? = some v → ∃ d, ds[i]? = some d ∧ Dp K H v d
  | _, _, .nil, i, v, h => by simp at h
  | _, _, .cons a b, 0, v, h => by cases h; exact ⟨_, rfl, a⟩
  | _, _, .cons a b, i + 1, v, h => dpa_get b (i := i) h
def tyD : PyData → String
  | .none => "NoneType"
  | .bool _ => "bool"
  | .int _ => "int"
  | .str _ => "str"
  | .list _ => "list"
  | .tuple _ => "tuple"
  | .dict _ => "dict"
theorem dp_ty {K : PySem.W.Frag} {H : Hp} {v : V} {d : PyData} (h : Dp K H v d) : TyX K H v (.type (tyD d)) := by
  cases h with
  | non => exact .base .non
  | bl b => exact .base (.bl b)
  | int i => exact .base (.int i)
  | str x => exact .base (.str x)
  | lst h a =>
    rcases h with (h | ⟨o, h⟩) | ⟨o, its, n, h1, h2, _⟩
    · exact .base (.lst h)
    · exact .base (.frz h)
    · exact .kList h1 h2
  | tup h a =>
    rcases h with (h | ⟨o, h⟩) | ⟨o, its, n, h1, h2, _⟩
    · exact .base (.tup h)
    · exact .fTuple h
    · exact .kTuple h1 h2
def isD (n : String) (d : PyData) : Bool := tyD d == n || (n == "int" && tyD d == "bool")
theorem isD_kit {K : PySem.W.Frag} (n : String) (hn : n ∈ ["str", "int", "bool", "tuple"]) (d : PyData) (nd : ∀ kvs, d ≠ .dict kvs) : PySem.W.kitOne K (.type (tyD d)) (.type n) = some (isD n d) := by
  simp only [List.mem_cons, List.not_mem_nil, or_false] at hn
  rcases hn with rfl | rfl | rfl | rfl <;> cases d <;> first | exact absurd rfl (nd _) | rfl
abbrev rSgQ : R2 := fun x y H Q => ∃ (c : Nat) (z : Str), x = .str ⟨#[c]⟩ ∧ y = .str z ∧ Q (.bl (decide (c ∈ z.cps.toList))) H
mutual
def lnD : PyData → Bool
  | .str s => decide (s.length ≤ 5000)
  | .list xs => lnA xs
  | .tuple xs => decide (xs.length ≤ 5000) && lnA xs
  | _ => true
def lnA : List PyData → Bool
  | [] => true
  | x :: xs => lnD x && lnA xs
end
theorem lnA_mem : ∀ {xs : List PyData}, lnA xs = true → ∀ x ∈ xs, lnD x = true
  | y :: ys, h, x, hx => by
    rw [lnA, Bool.and_eq_true] at h
    rcases List.mem_cons.mp hx with rfl | hx
    · exact h.1
    · exact lnA_mem h.2 x hx
structure TrOk (d : PyData) : Prop where
  sh : SeqAt.shaped d = true
  ln : lnD d = true
theorem TrOk.str {d : PyData} (h : TrOk d) : ∀ s, d = .str s → s.length ≤ sizeLine := fun s e => by
  have := h.ln
  rw [e, lnD, decide_eq_true_eq] at this
  rw [sizeLine_eq]
  omega
theorem depth_mem : ∀ {xs : List PyData} {x : PyData}, x ∈ xs → x.depth ≤ PyData.depthAll xs
  | y :: ys, x, h => by
    rw [PyData.depthAll]
    rcases List.mem_cons.mp h with rfl | h
    · omega
    · have := depth_mem h
      omega
theorem TrOk.mem {xs : List PyData} (h : TrOk (.tuple xs)) : ∀ x ∈ xs, TrOk x := fun x hx => by
  have a := SeqAt.canLay_of_shaped h.sh
  have b := SeqAt.depth_of_shaped h.sh
  rw [PyData.canLay0] at a
  rw [PyData.depth] at b
  have := depth_mem hx
  have l := h.ln
  rw [lnD, Bool.and_eq_true] at l
  refine ⟨?_, lnA_mem l.2 x hx⟩
  unfold SeqAt.shaped
  rw [PyData.canLay0_of_mem xs x a hx, decide_eq_true (by omega)]
  rfl
theorem TrOk.two {a b : PyData} (h : TrOk (.tuple [a, b])) : TrOk a ∧ TrOk b := ⟨h.mem a (by simp), h.mem b (by simp)⟩
theorem TrOk.three {a b c : PyData} (h : TrOk (.tuple [a, b, c])) : TrOk a ∧ TrOk b ∧ TrOk c := ⟨h.mem a (by simp), h.mem b (by simp), h.mem c (by simp)⟩
theorem tup2 {d : PyData} (h : isTupD 2 d = true) : ∃ a b, d = .tuple [a, b] := by
  cases d with
  | tuple xs =>
    have h := of_decide_eq_true (show decide ((xs.length : Int) = 2) = true from h)
    match xs, h with
    | [a, b], _ => exact ⟨a, b, rfl⟩
    | [], h => simp at h
    | [_], h => simp at h
    | _ :: _ :: _ :: _, h => simp at h; omega
  | _ => cases h
theorem tup3 {d : PyData} (h : isTupD 3 d = true) : ∃ a b c, d = .tuple [a, b, c] := by
  cases d with
  | tuple xs =>
    have h := of_decide_eq_true (show decide ((xs.length : Int) = 3) = true from h)
    match xs, h with
    | [a, b, c], _ => exact ⟨a, b, c, rfl⟩
    | [], h => simp at h
    | [_], h => simp at h
    | [_, _], h => simp at h
    | _ :: _ :: _ :: _ :: _, h => simp at h; omega
  | _ => cases h
theorem dp_two {K : PySem.W.Frag} {H : Hp} {v : V} {a b : PyData} (h : Dp K H v (.tuple [a, b])) : ∃ p va vb, v = .ref p ∧ SqT K H p [va, vb] ∧ Dp K H va a ∧ Dp K H vb b := by
  cases h with
  | tup h d =>
    cases d with
    | cons a1 d => cases d with
      | cons a2 d => cases d; exact ⟨_, _, _, rfl, h, a1, a2⟩
theorem dp_three {K : PySem.W.Frag} {H : Hp} {v : V} {a b c : PyData} (h : Dp K H v (.tuple [a, b, c])) : ∃ p va vb vc, v = .ref p ∧ SqT K H p [va, vb, vc] ∧ Dp K H va a ∧ Dp K H vb b ∧ Dp K H vc c := by
  cases h with
  | tup h d =>
    cases d with
    | cons a1 d => cases d with
      | cons a2 d => cases d with
        | cons a3 d => cases d; exact ⟨_, _, _, _, rfl, h, a1, a2, a3⟩
theorem plain_not2 {d : PyData} (h : ¬ isTupD 2 d = true) : plainD d = false := by
  unfold plainD
  split
  · exact absurd rfl h
  · rfl
theorem head_not3 {d : PyData} (h : ¬ isTupD 3 d = true) : headD d = false := by
  unfold headD
  split
  · exact absurd rfl h
  · rfl
/-- the defs about rows -/
structure RowD (K : PySem.W.Frag) (mg : Str → Option Value) (f_w f_n f_nu f_tu f_pl f_gh f_ls f_lb f_ir : Addr) (d_w d_n d_nu d_tu d_pl d_gh d_ls d_lb d_ir : FuncData) : Prop where
  w : DF K mg "is_word" sIsWord ["thing", "letters", "fewest", "most"] f_w d_w
  n : DF K mg "is_name" sIsName ["thing"] f_n d_n
  nu : DF K mg "is_number" sIsNum ["thing", "most"] f_nu d_nu
  tu : DF K mg "is_tuple_of" sIsTup ["thing", "many"] f_tu d_tu
  pl : DF K mg "is_plain_step" sIsPlain ["step"] f_pl d_pl
  gh : DF K mg "is_group_head" sIsHead ["step"] f_gh d_gh
  ls : DF K mg "left_behind_step" sLbS ["step", "deep", "left"] f_ls d_ls
  lb : DF K mg "left_behind" sLb ["row", "deep", "left"] f_lb d_lb
  ir : DF K mg "is_row" sIsRow ["tree"] f_ir d_ir
  cSMALL : ∃ t, mg "SMALL" = some (.str SM t)
  cLETTERS : ∃ t, mg "LETTERS" = some (.str LT t)
  cMOST_STEPS : ∃ t, mg "MOST_STEPS" = some (.int 60 t)
  cMOST_DEEP : ∃ t, mg "MOST_DEEP" = some (.int 12 t)
  cMOST_TIMES : ∃ t, mg "MOST_TIMES" = some (.int (10 ^ 30) t)
  cMOST_SIDES : ∃ t, mg "MOST_SIDES" = some (.int 12 t)
  cLONGEST_NAME : ∃ t, mg "LONGEST_NAME" = some (.int 8 t)
  zisinstance : mg "isinstance" = none
  zstr : mg "str" = none
  zlen : mg "len" = none
  zall : mg "all" = none
  zint : mg "int" = none
  zbool : mg "bool" = none
  ztuple : mg "tuple" = none
section
variable {P : Program} {w : World} {K : PySem.W.Frag} {mg : Str → Option Value} {base : Heap} {f_w f_n f_nu f_tu f_pl f_gh f_ls f_lb f_ir : Addr} {d_w d_n d_nu d_tu d_pl d_gh d_ls d_lb d_ir : FuncData}
theorem dp_nd {H : Hp} {v : V} {d : PyData} (h : Dp K H v d) : ∀ kvs, d ≠ .dict kvs := fun kvs e => by rw [e] at h; cases h
def spTupQ (K : PySem.W.Frag) : Sp := fun vs H Q _ => ∃ v d n, vs = [v, .int n] ∧ Dp K H v d ∧ Q (.bl (isTupD n d)) H
theorem ok_tu {k : Nat} (W : RowD K mg f_w f_n f_nu f_tu f_pl f_gh f_ls f_lb f_ir d_w d_n d_nu d_tu d_pl d_gh d_ls d_lb d_ir) : FnOk P w K mg base CX0 (k + 1) f_tu d_tu ["thing", "many"] (spTupQ K) := by
  refine W.tu.F.ok scIsTup (fun vs H Q E h => ?_) (fun cdv A outer st H vs Q E hr h => ?_)
  · obtain ⟨v, d, n, rfl, _⟩ := h
    rfl
  · obtain ⟨v, d, n, rfl, hd, q⟩ := h
    refine ⟨_, (pss_one (ps_ret (pe_and (pe_callB call_isi (by rfl) W.zisinstance boot_isi (pa_cons (pv 0) (pa_cons (pe_bltn (v := .ty "tuple") (by rfl) W.ztuple (by decide +kernel) rfl) pa_nil))) (pe_one (pe_cmpR op_eq (pe_callB call_len_seq (by rfl) W.zlen PySem.boot_len (pa_cons (pv 0) pa_nil)) (pv 1) (nomark _)))))), ?_⟩
    refine ⟨_, rfl, v, _, _, _, _, rfl, .ty _, dp_ty hd, isD_kit "tuple" (by simp) d (dp_nd hd), _, rfl, ?_⟩
    cases hd with
    | tup h a =>
      rename_i p xs ds
      refine iteT ⟨_, rfl, p, xs, rfl, .inr h, _, rfl, rfl, ?_⟩
      rw [show decide (V.int (xs.length : Int) = V.int n) = isTupD n (.tuple ds) by
        unfold isTupD
        rw [Bool.eq_iff_iff, decide_eq_true_eq, decide_eq_true_eq, dpa_len a]
        exact ⟨fun h => by injection h, fun h => by rw [h]⟩]
      exact q
    | non => exact iteF q
    | bl b => exact iteF q
    | int i => exact iteF q
    | str s => exact iteF q
    | lst h a => exact iteF q
def spNumQ (K : PySem.W.Frag) : Sp := fun vs H Q _ => ∃ v d n, vs = [v, .int n] ∧ Dp K H v d ∧ Q (.bl (isNumD n d)) H
theorem ok_nu {k : Nat} (W : RowD K mg f_w f_n f_nu f_tu f_pl f_gh f_ls f_lb f_ir d_w d_n d_nu d_tu d_pl d_gh d_ls d_lb d_ir) : FnOk P w K mg base CX0 (k + 1) f_nu d_nu ["thing", "most"] (spNumQ K) := by
  refine W.nu.F.ok scIsNum (fun vs H Q E h => ?_) (fun cdv A outer st H vs Q E hr h => ?_)
  · obtain ⟨v, d, n, rfl, _⟩ := h
    rfl
  · obtain ⟨v, d, n, rfl, hd, q⟩ := h
    refine ⟨_, (pss_cons (ps_if (PW.pt (pw_or (pt_not (pt_val (pe_callB call_isi (by rfl) W.zisinstance boot_isi (pa_cons (pv 0) (pa_cons (pe_bltn (v := .ty "int") (by rfl) W.zint (by decide +kernel) rfl) pa_nil))))) (pw_or1 (pt_val (pe_callB call_isi (by rfl) W.zisinstance boot_isi (pa_cons (pv 0) (pa_cons (pe_bltn (v := .ty "bool") (by rfl) W.zbool (by decide +kernel) rfl) pa_nil)))))))
        (pss_one (ps_ret pe_bl))
        pss_nil)
      (pss_one (ps_ret (pe_chain op_le op_le pe_int (pv 0) (pv 1))))), ?_⟩
    refine ⟨_, rfl, v, _, _, _, _, rfl, .ty _, dp_ty hd, isD_kit "int" (by simp) d (dp_nd hd), _, rfl, ?_⟩
    have ib := isD_kit (K := K) "bool" (by simp) d (dp_nd hd)
    have ty := dp_ty hd
    cases hd with
    | int i =>
      refine iteF ⟨_, rfl, _, _, _, _, _, rfl, .ty _, ty, ib, _, rfl, iteF ?_⟩
      refine ⟨_, rfl, _, _, rfl, rfl, _, rfl, ?_⟩
      have q : Q (.bl (decide (0 ≤ i) && decide (i ≤ n))) H := q
      by_cases h0 : 0 ≤ i
      · rw [decide_eq_true h0] at q ⊢
        rw [Bool.true_and] at q
        exact iteT ⟨_, rfl, _, _, rfl, rfl, q⟩
      · rw [decide_eq_false h0] at q ⊢
        exact iteF q
    | bl b => exact iteF ⟨_, rfl, _, _, _, _, _, rfl, .ty _, ty, ib, _, rfl, iteT q⟩
    | non => exact iteT q
    | str s => exact iteT q
    | tup h a => exact iteT q
    | lst h a => exact iteT q
def spWordQ (K : PySem.W.Frag) : Sp := fun vs H Q _ => ∃ v d z lo hi, vs = [v, .str z, .int lo, .int hi] ∧ Dp K H v d ∧ hi ≤ 1000 ∧ (∀ s, d = .str s → s.length ≤ sizeLine) ∧ ∀ H', Same H H' → Q (.bl (isWordD z lo hi d)) H'
theorem ok_w {k : Nat} (W : RowD K mg f_w f_n f_nu f_tu f_pl f_gh f_ls f_lb f_ir d_w d_n d_nu d_tu d_pl d_gh d_ls d_lb d_ir) : FnOk P w K mg base CX0 (k + 1) f_w d_w ["thing", "letters", "fewest", "most"] (spWordQ K) := by
  refine W.w.F.ok scIsWord (fun vs H Q E h => ?_) (fun cdv A outer st H vs Q E hr h => ?_)
  · obtain ⟨v, d, z, lo, hi, rfl, _⟩ := h
    rfl
  · obtain ⟨v, d, z, lo, hi, rfl, hd, hh, hl, q⟩ := h
    have nd := scIsWord.nd
    refine ⟨_, (pss_cons (ps_if (PW.pt (pw_or (pt_not (pt_val (pe_callB call_isi (by rfl) W.zisinstance boot_isi (pa_cons (pv 0) (pa_cons (pe_bltn (v := .ty "str") (by rfl) W.zstr (by decide +kernel) rfl) pa_nil))))) (pw_or1 (pt_not (pt_chain op_le op_le (pv 2) (pe_callB call_len_str (by rfl) W.zlen PySem.boot_len (pa_cons (pv 0) pa_nil)) (pv 3))))))
        (pss_one (ps_ret pe_bl))
        pss_nil)
      (pss_one (ps_ret (pe_callB (cr_all rfl) (by rfl) W.zall (by decide +kernel) (pa_cons (pe_lc (own := [("sign", 4)]) (g := gName 4) (tt := tYes) (te := tOp rSgQ (tVar 4) (tVar 1)) rfl nd (pi_str (pv 0)) (blkOk_by (N := ["thing", "letters", "fewest", "most", "sign"]) (sc := defScope sIsWord) (by decide +kernel)) (fun _ _ _ _ _ => pg_name (i := 4) nd rfl (Or.inl rfl)) (fun _ _ _ _ _ => pts_nil) (fun _ _ _ _ _ => (pe_cmpR op_in_sign (pv 4) (pv 1) (by rfl)))) pa_nil))))), ?_⟩
    refine ⟨_, rfl, v, _, _, _, _, rfl, .ty _, dp_ty hd, isD_kit "str" (by simp) d (dp_nd hd), _, rfl, ?_⟩
    have r : Same H H := fun _ _ h => h
    have q0 := q H r
    cases hd with
    | str s =>
      refine iteF ⟨_, rfl, _, rfl, s, rfl, hl s rfl, _, _, rfl, rfl, _, rfl, ?_⟩
      have q : ∀ H', Same H H' → Q (.bl ((decide (lo ≤ (s.length : Int)) && decide ((s.length : Int) ≤ hi)) && s.cps.toList.all fun c => decide (c ∈ z.cps.toList))) H' := q
      by_cases h1 : lo ≤ (s.length : Int)
      · rw [decide_eq_true h1] at q ⊢
        refine iteT ⟨_, rfl, _, _, rfl, rfl, _, rfl, ?_⟩
        by_cases h2 : (s.length : Int) ≤ hi
        · rw [decide_eq_true h2] at q ⊢
          refine iteF ⟨_, rfl, s, rfl, fun D nD => ?_⟩
          have lz : s.cps.size = s.length := rfl
          refine lc_it walk_str (fun i H' => Same H H' ∧ H' D = some (.lst (((s.cps.toList.take i).map fun c => decide (c ∈ z.cps.toList)).map V.bl))) ⟨same_upd nD, upd_same⟩ (fun _ _ _ _ => trivial) ?_ ?_
          · rintro i x H1 H2 hi' ⟨s1, e1⟩ ⟨rfl, c, hc, rfl⟩
            have hcl : s.cps.toList[i]? = some c := by rw [Array.getElem?_toList]; exact hc
            refine ⟨rfl, yes_i ⟨_, rfl, _, rfl, c, z, rfl, rfl, ?_⟩⟩
            refine ⟨_, e1, ?_, sm_over s1 nD, ?_⟩
            · rw [List.length_map, List.length_map, List.length_take, sizeLine_eq]
              have : s.cps.toList.length = s.length := by simp [Str.length]
              omega
            · rw [upd_same, List.take_add_one, hcl, List.map_append, List.map_append]
              rfl
          · rintro H1 ⟨s1, e1⟩
            rw [List.take_of_length_le (by simp)] at e1
            refine ⟨_, _, rfl, SqL.of e1, ?_⟩
            rw [List.all_map]
            exact q _ s1
        · rw [decide_eq_false h2] at q ⊢
          exact iteT (q H r)
      · rw [decide_eq_false h1] at q ⊢
        exact iteF ⟨_, rfl, iteT (q H r)⟩
    | non => exact iteT q0
    | bl b => exact iteT q0
    | int i => exact iteT q0
    | tup h a => exact iteT q0
    | lst h a => exact iteT q0
/-- trees that can be looked at -/
def spNameQ (K : PySem.W.Frag) : Sp := fun vs H Q _ => ∃ v d, vs = [v] ∧ Dp K H v d ∧ TrOk d ∧ ∀ H', Same H H' → Q (.bl (isNameD d)) H'
theorem ok_n {k : Nat} (W : RowD K mg f_w f_n f_nu f_tu f_pl f_gh f_ls f_lb f_ir d_w d_n d_nu d_tu d_pl d_gh d_ls d_lb d_ir) : FnOk P w K mg base CX0 (k + 2) f_n d_n ["thing"] (spNameQ K) := by
  obtain ⟨_, hS⟩ := W.cSMALL
  obtain ⟨_, hN⟩ := W.cLONGEST_NAME
  have GW : FnOk P w K mg base CX0 (k + 1) f_w d_w ["thing", "letters", "fewest", "most"] (spWordQ K) := ok_w W
  refine W.n.F.ok scIsName (fun vs H Q E h => ?_) (fun cdv A outer st H vs Q E hr h => ?_)
  · obtain ⟨v, d, rfl, _⟩ := h
    rfl
  · obtain ⟨v, d, rfl, hd, ht, q⟩ := h
    refine ⟨_, (pss_one (ps_ret (pe_call GW hr rfl W.w.g W.w.F.kp W.w.b .nil pass0 (pa_cons (pv 0) (pa_cons (pe_glob (v := .str SM) rfl hS ⟨_, rfl⟩) (pa_cons pe_int (pa_cons (pe_glob (v := .int 8) rfl hN ⟨_, rfl⟩) pa_nil))))))), ?_⟩
    exact ⟨_, rfl, v, d, SM, 1, 8, rfl, hd, by decide, ht.str, q⟩
def spPlain (K : PySem.W.Frag) : Sp := fun vs H Q _ => ∃ v d, vs = [v] ∧ Dp K H v d ∧ TrOk d ∧ ∀ H', Same H H' → Q (.bl (plainD d)) H'
theorem ok_pl {k : Nat} (W : RowD K mg f_w f_n f_nu f_tu f_pl f_gh f_ls f_lb f_ir d_w d_n d_nu d_tu d_pl d_gh d_ls d_lb d_ir) : FnOk P w K mg base CX0 (k + 3) f_pl d_pl ["step"] (spPlain K) := by
  obtain ⟨_, hL⟩ := W.cLETTERS
  obtain ⟨_, hM⟩ := W.cMOST_SIDES
  have GW : FnOk P w K mg base CX0 (k + 1) f_w d_w ["thing", "letters", "fewest", "most"] (spWordQ K) := ok_w W
  have GT : FnOk P w K mg base CX0 (k + 1) f_tu d_tu ["thing", "many"] (spTupQ K) := ok_tu W
  have GN : FnOk P w K mg base CX0 (k + 2) f_n d_n ["thing"] (spNameQ K) := ok_n W
  refine W.pl.F.ok scIsPlain (fun vs H Q E h => ?_) (fun cdv A outer st H vs Q E hr h => ?_)
  · obtain ⟨v, d, rfl, _⟩ := h
    rfl
  · obtain ⟨v, d, rfl, hd, ht, q⟩ := h
    have r1 : Room (k + 1) _ := hr.mono (by omega)
    refine ⟨_, (pss_cons (ps_if (pt_not (pt_val (pe_call GT r1 rfl W.tu.g W.tu.F.kp W.tu.b .nil pass0 (pa_cons (pv 0) (pa_cons pe_int pa_nil)))))
        (pss_one (ps_ret pe_bl))
        pss_nil)
      (pss_cons (ps_if (pt_cmpR (op_eqD hr.units) (pe_ix ix_tup (pv 0) pe_int (fun _ _ => rfl)) pe_str (nomark _))
        (pss_one (ps_ret (pe_call GW r1 rfl W.w.g W.w.F.kp W.w.b .nil pass0 (pa_cons (pe_ix ix_tup (pv 0) pe_int (fun _ _ => rfl)) (pa_cons (pe_glob (v := .str LT) rfl hL ⟨_, rfl⟩) (pa_cons pe_int (pa_cons (pe_glob (v := .int 12) rfl hM ⟨_, rfl⟩) pa_nil)))))))
        pss_nil)
      (pss_cons (ps_if (pt_cmpR (op_eqD hr.units) (pe_ix ix_tup (pv 0) pe_int (fun _ _ => rfl)) pe_str (nomark _))
        (pss_one (ps_ret (pe_call GW r1 rfl W.w.g W.w.F.kp W.w.b .nil pass0 (pa_cons (pe_ix ix_tup (pv 0) pe_int (fun _ _ => rfl)) (pa_cons (pe_glob (v := .str LT) rfl hL ⟨_, rfl⟩) (pa_cons pe_int (pa_cons (pe_glob (v := .int 12) rfl hM ⟨_, rfl⟩) pa_nil)))))))
        pss_nil)
      (pss_one (ps_ret (pe_and (pe_cmpR (op_eqD hr.units) (pe_ix ix_tup (pv 0) pe_int (fun _ _ => rfl)) pe_str (nomark _)) (pe_one (pe_call GN hr rfl W.n.g W.n.F.kp W.n.b .nil pass0 (pa_cons (pe_ix ix_tup (pv 0) pe_int (fun _ _ => rfl)) pa_nil))))))))), ?_⟩
    have r : Same H H := fun _ _ h => h
    refine ⟨_, rfl, v, d, 2, rfl, hd, _, rfl, ?_⟩
    by_cases h2 : isTupD 2 d = true
    · obtain ⟨a, b, rfl⟩ := tup2 h2
      obtain ⟨p, va, vb, rfl, hT, ha, hb⟩ := dp_two hd
      obtain ⟨ta, tb⟩ := ht.two
      have q : ∀ H', Same H H' → Q (.bl (if eqStr a "call" = true then isWordD LT 0 12 b else if eqStr a "turn" = true then isWordD LT 1 12 b else eqStr a "row" && isNameD b)) H' := q
      rw [h2]
      refine iteF ?_
      have e : ∀ x : Str, PyData.eqv a (.str x) = eqStr a x := fun _ => rfl
      refine ⟨_, rfl, p, _, 0, va, rfl, rfl, hT, rfl, a, .str "call", ha, .str _, ta.sh, by decide +kernel, _, rfl, ?_⟩
      rw [e]
      refine ite2 (fun t => ?_) (fun t => ?_)
      · refine ⟨_, rfl, p, _, 1, vb, rfl, rfl, hT, rfl, vb, b, LT, 0, 12, rfl, hb, by decide, tb.str, fun H' s => ?_⟩
        have := q H' s
        rw [if_pos t] at this
        exact this
      · refine ⟨_, rfl, p, _, 0, va, rfl, rfl, hT, rfl, a, .str "turn", ha, .str _, ta.sh, by decide +kernel, _, rfl, ?_⟩
        rw [e]
        refine ite2 (fun t2 => ?_) (fun t2 => ?_)
        · refine ⟨_, rfl, p, _, 1, vb, rfl, rfl, hT, rfl, vb, b, LT, 1, 12, rfl, hb, by decide, tb.str, fun H' s => ?_⟩
          have := q H' s
          rw [if_neg t, if_pos t2] at this
          exact this
        · refine ⟨_, rfl, p, _, 0, va, rfl, rfl, hT, rfl, a, .str "row", ha, .str _, ta.sh, by decide +kernel, _, rfl, ?_⟩
          rw [e]
          have q : ∀ H', Same H H' → Q (.bl (eqStr a "row" && isNameD b)) H' := fun H' s => by
            have := q H' s
            rw [if_neg t, if_neg t2] at this
            exact this
          by_cases t3 : eqStr a "row" = true
          · rw [t3] at q ⊢
            exact iteT ⟨_, rfl, p, _, 1, vb, rfl, rfl, hT, rfl, vb, b, rfl, hb, tb, fun H' s => by have := q H' s; rw [Bool.true_and] at this; exact this⟩
          · rw [Bool.not_eq_true] at t3
            rw [t3] at q ⊢
            exact iteF (q H r)
    · have q := q H r
      rw [plain_not2 h2] at q
      rw [Bool.not_eq_true] at h2
      rw [h2]
      exact iteT q
def spHead (K : PySem.W.Frag) : Sp := fun vs H Q _ => ∃ v d, vs = [v] ∧ Dp K H v d ∧ TrOk d ∧ Q (.bl (headD d)) H
theorem ok_gh {k : Nat} (W : RowD K mg f_w f_n f_nu f_tu f_pl f_gh f_ls f_lb f_ir d_w d_n d_nu d_tu d_pl d_gh d_ls d_lb d_ir) : FnOk P w K mg base CX0 (k + 2) f_gh d_gh ["step"] (spHead K) := by
  obtain ⟨_, hTi⟩ := W.cMOST_TIMES
  have GT : FnOk P w K mg base CX0 (k + 1) f_tu d_tu ["thing", "many"] (spTupQ K) := ok_tu W
  have GNu : FnOk P w K mg base CX0 (k + 1) f_nu d_nu ["thing", "most"] (spNumQ K) := ok_nu W
  refine W.gh.F.ok scIsHead (fun vs H Q E h => ?_) (fun cdv A outer st H vs Q E hr h => ?_)
  · obtain ⟨v, d, rfl, _⟩ := h
    rfl
  · obtain ⟨v, d, rfl, hd, ht, q⟩ := h
    refine ⟨_, (pss_one (ps_ret (pe_and (pe_call GT hr rfl W.tu.g W.tu.F.kp W.tu.b .nil pass0 (pa_cons (pv 0) (pa_cons pe_int pa_nil))) (pe_and (pe_cmpR (op_eqD hr.units) (pe_ix ix_tup (pv 0) pe_int (fun _ _ => rfl)) pe_str (nomark _)) (pe_one (pe_call GNu hr rfl W.nu.g W.nu.F.kp W.nu.b .nil pass0 (pa_cons (pe_ix ix_tup (pv 0) pe_int (fun _ _ => rfl)) (pa_cons (pe_glob (v := .int (10 ^ 30)) rfl hTi ⟨_, rfl⟩) pa_nil)))))))), ?_⟩
    refine ⟨_, rfl, v, d, 3, rfl, hd, _, rfl, ?_⟩
    by_cases h3 : isTupD 3 d = true
    · obtain ⟨a, b, c, rfl⟩ := tup3 h3
      obtain ⟨p, va, vb, vc, rfl, hT, ha, hb, hc⟩ := dp_three hd
      obtain ⟨ta, tb, tc⟩ := ht.three
      rw [h3]
      refine iteT ⟨_, rfl, p, _, 0, va, rfl, rfl, hT, rfl, a, .str "times", ha, .str _, ta.sh, by decide +kernel, _, rfl, ?_⟩
      have q : Q (.bl (eqStr a "times" && isNumD (10 ^ 30) b)) H := q
      rw [show PyData.eqv a (.str "times") = eqStr a "times" from rfl]
      by_cases t : eqStr a "times" = true
      · rw [t] at q ⊢
        exact iteT ⟨_, rfl, p, _, 1, vb, rfl, rfl, hT, rfl, vb, b, 10 ^ 30, rfl, hb, by rw [Bool.true_and] at q; exact q⟩
      · rw [Bool.not_eq_true] at t
        rw [t] at q ⊢
        exact iteF q
    · rw [head_not3 h3] at q
      rw [Bool.not_eq_true] at h3
      rw [h3]
      exact iteF q
def spLbS (K : PySem.W.Frag) (n : Nat) : Sp := fun vs H Q _ => ∃ v d l, vs = [v, .int ((12 - n : Nat) : Int), .int l] ∧ n ≤ 12 ∧ Dp K H v d ∧ TrOk d ∧ ∀ H', Same H H' → Q (.int (lbS n d l)) H'
def spLbR (K : PySem.W.Frag) (n : Nat) : Sp := fun vs H Q _ => ∃ v d l, vs = [v, .int ((12 - n : Nat) : Int), .int l] ∧ n ≤ 12 ∧ Dp K H v d ∧ TrOk d ∧ ∀ H', Same H H' → Q (.int (lbR n d l)) H'
/-- a row, if its steps are told -/
theorem ok_lb_of {k n : Nat} (W : RowD K mg f_w f_n f_nu f_tu f_pl f_gh f_ls f_lb f_ir d_w d_n d_nu d_tu d_pl d_gh d_ls d_lb d_ir) (hk : 1 ≤ k) (GS : FnOk P w K mg base CX0 k f_ls d_ls ["step", "deep", "left"] (spLbS K n)) : FnOk P w K mg base CX0 (k + 1) f_lb d_lb ["row", "deep", "left"] (spLbR K n) := by
  have GT : FnOk P w K mg base CX0 (0 + 1) f_tu d_tu ["thing", "many"] (spTupQ K) := ok_tu W
  refine W.lb.F.ok scLb (fun vs H Q E h => ?_) (fun cdv A outer st H vs Q E hr h => ?_)
  · obtain ⟨v, d, l, rfl, _⟩ := h
    rfl
  · obtain ⟨v, d, l, rfl, hn, hd, ht, q⟩ := h
    have r1 : Room (0 + 1) _ := hr.mono (by omega)
    have nd := scLb.nd
    refine ⟨_, (pss_cons (ps_if (PW.pt (pw_or (pt_not (pt_val (pe_call GT r1 rfl W.tu.g W.tu.F.kp W.tu.b .nil pass0 (pa_cons (pv 0) (pa_cons pe_int pa_nil))))) (pw_or (pt_cmpR (op_neD hr.units) (pe_ix ix_tup (pv 0) pe_int (fun _ _ => rfl)) pe_str (nomark _)) (pw_or1 (pt_not (pt_val (pe_callB call_isi (by rfl) W.zisinstance boot_isi (pa_cons (pe_ix ix_tup (pv 0) pe_int (fun _ _ => rfl)) (pa_cons (pe_bltn (v := .ty "tuple") (by rfl) W.ztuple (by decide +kernel) rfl) pa_nil)))))))))
        (pss_one (ps_ret (pe_un un_neg pe_int)))
        pss_nil)
      (pss_cons (ps_for PassesOwn.never rfl (pi_tup (pe_ix ix_tup (pv 0) pe_int (fun _ _ => rfl))) (pg_name (i := 3) nd rfl (.inl rfl))
        (pss_cons (ps_set (i := 2) nd rfl (.inl rfl) (pe_call GS hr rfl W.ls.g W.ls.F.kp W.ls.b .nil pass0 (pa_cons (pv 3) (pa_cons (pv 1) (pa_cons (pv 2) pa_nil)))))
      (pss_one (ps_if (pt_cmpR op_lt (pv 2) pe_int (nomark _))
        (pss_one (ps_ret (pe_un un_neg pe_int)))
        pss_nil))))
      (pss_one (ps_ret (pv 2))))), ?_⟩
    have r : Same H H := fun _ _ h => h
    refine ⟨_, rfl, v, d, 2, rfl, hd, _, rfl, ?_⟩
    by_cases h2 : isTupD 2 d = true
    · obtain ⟨a, b, rfl⟩ := tup2 h2
      obtain ⟨p, va, vb, rfl, hT, ha, hb⟩ := dp_two hd
      obtain ⟨ta, tb⟩ := ht.two
      rw [h2]
      refine iteF ⟨_, rfl, p, _, 0, va, rfl, rfl, hT, rfl, a, .str "steps", ha, .str _, ta.sh, by decide +kernel, _, rfl, ?_⟩
      rw [show PyData.eqv a (.str "steps") = eqStr a "steps" from rfl]
      by_cases t : eqStr a "steps" = true
      · rw [t]
        refine iteF ⟨_, rfl, p, _, 1, vb, rfl, rfl, hT, rfl, vb, _, _, _, _, rfl, .ty _, dp_ty hb, isD_kit "tuple" (by simp) b (dp_nd hb), _, rfl, ?_⟩
        cases hb with
        | tup hq hall =>
          rename_i pq xs ds
          have q : ∀ H', Same H H' → Q (.int (lbL (lbS n) ds l)) H' := fun H' s => by
            have := q H' s
            show Q (.int (lbL (lbS n) ds l)) H'
            have e : lbR n (.tuple [a, .tuple ds]) l = lbL (lbS n) ds l := by
              show (if eqStr a "steps" = true then _ else _) = _
              rw [if_pos t]
            rw [e] at this
            exact this
          refine iteF ⟨_, rfl, p, _, 1, _, rfl, rfl, hT, rfl, pq, rfl, ⟨_, hq⟩, ?_⟩
          have wk := walk_tup (K := K) (a := pq) (xs := xs)
          refine for_it wk (fun i σ H' => ∃ (l' : Int) (y3 : Option V), σ = [some (.ref p), some (.int ((12 - n : Nat) : Int)), some (.int l'), y3] ∧ Same H H' ∧ lbL (lbS n) ds l = lbL (lbS n) (ds.drop i) l') ⟨l, _, rfl, r, rfl⟩ (fun i σ H' _ h => by obtain ⟨_, _, _, s, _⟩ := h; exact sm_t s hq) ?_ ?_
          · rintro i v σ G1 G2 hi ⟨l', y3, rfl, s, e⟩ ⟨rfl, hx⟩
            obtain ⟨d', hd', hdp⟩ := dpa_get hall hx
            have il : i < ds.length := (List.getElem?_eq_some_iff.mp hd').1
            have ed : ds.drop i = d' :: ds.drop (i + 1) := by
              rw [List.drop_eq_getElem_cons il, (List.getElem?_eq_some_iff.mp hd').2]
            rw [ed, lbL] at e
            refine ⟨_, rfl, _, rfl, _, rfl, v, d', l', rfl, hn, dp_same s hdp, tb.mem d' (List.mem_of_getElem? hd'), fun G3 s3 => ?_⟩
            refine ⟨_, rfl, _, _, rfl, rfl, _, rfl, ?_⟩
            by_cases neg : lbS n d' l' < 0
            · rw [decide_eq_true neg]
              rw [if_pos neg] at e
              refine iteT ⟨_, rfl, ?_⟩
              have := q G3 (sm_trans s s3)
              rw [e] at this
              exact this
            · rw [decide_eq_false neg]
              rw [if_neg neg] at e
              exact iteF ⟨_, _, rfl, sm_trans s s3, e⟩
          · rintro σ G1 ⟨l', y3, rfl, s, e⟩
            rw [dpa_len hall, List.drop_length, lbL] at e
            have := q G1 s
            rw [e] at this
            exact ⟨_, rfl, this⟩
        | non => exact iteT ⟨_, rfl, q H r⟩
        | bl b => exact iteT ⟨_, rfl, q H r⟩
        | int i => exact iteT ⟨_, rfl, q H r⟩
        | str s => exact iteT ⟨_, rfl, q H r⟩
        | lst h a => exact iteT ⟨_, rfl, q H r⟩
      · have q := q H r
        have e : lbR n (.tuple [a, b]) l = -1 := by
          cases b with
          | tuple xs =>
            show (if eqStr a "steps" = true then lbL (lbS n) xs l else -1) = -1
            rw [if_neg t]
          | _ => rfl
        rw [e] at q
        rw [Bool.not_eq_true] at t
        rw [t]
        exact iteT ⟨_, rfl, q⟩
    · have q := q H r
      have e : lbR n d l = -1 := by
        unfold lbR lbRof
        split
        · exact absurd rfl h2
        · rfl
      rw [e] at q
      rw [Bool.not_eq_true] at h2
      rw [h2]
      exact iteT ⟨_, rfl, q⟩
/-- a step, if rows within it are told -/
theorem ok_ls_of {k n : Nat} {spR : Sp} (W : RowD K mg f_w f_n f_nu f_tu f_pl f_gh f_ls f_lb f_ir d_w d_n d_nu d_tu d_pl d_gh d_ls d_lb d_ir) (hk : 4 ≤ k) (GR : FnOk P w K mg base CX0 k f_lb d_lb ["row", "deep", "left"] spR) (hR : ∀ m, n = m + 1 → spR = spLbR K m) : FnOk P w K mg base CX0 (k + 1) f_ls d_ls ["step", "deep", "left"] (spLbS K n) := by
  obtain ⟨_, hD⟩ := W.cMOST_DEEP
  have GP : FnOk P w K mg base CX0 (0 + 3) f_pl d_pl ["step"] (spPlain K) := ok_pl W
  have GH : FnOk P w K mg base CX0 (0 + 2) f_gh d_gh ["step"] (spHead K) := ok_gh W
  refine W.ls.F.ok scLbS (fun vs H Q E h => ?_) (fun cdv A outer st H vs Q E hr h => ?_)
  · obtain ⟨v, d, l, rfl, _⟩ := h
    rfl
  · obtain ⟨v, d, l, rfl, hn, hd, ht, q⟩ := h
    have r2 : Room (0 + 2) _ := hr.mono (by omega)
    have r3 : Room (0 + 3) _ := hr.mono (by omega)
    refine ⟨_, (pss_cons (ps_if (pt_val (pe_call GP r3 rfl W.pl.g W.pl.F.kp W.pl.b .nil pass0 (pa_cons (pv 0) pa_nil)))
        (pss_one (ps_ret (pe_op op_sub (pv 2) pe_int)))
        pss_nil)
      (pss_cons (ps_if (PW.pt (pw_or (pt_cmpR op_eq (pv 1) (pe_glob (v := .int 12) rfl hD ⟨_, rfl⟩) (nomark _)) (pw_or1 (pt_not (pt_val (pe_call GH r2 rfl W.gh.g W.gh.F.kp W.gh.b .nil pass0 (pa_cons (pv 0) pa_nil)))))))
        (pss_one (ps_ret (pe_un un_neg pe_int)))
        pss_nil)
      (pss_one (ps_ret (pe_call GR hr rfl W.lb.g W.lb.F.kp W.lb.b .nil pass0 (pa_cons (pe_ix ix_tup (pv 0) pe_int (fun _ _ => rfl)) (pa_cons (pe_op op_add (pv 1) pe_int) (pa_cons (pe_op op_sub (pv 2) pe_int) pa_nil)))))))), ?_⟩
    refine ⟨_, rfl, v, d, rfl, hd, ht, fun H1 s1 => ⟨_, rfl, ?_⟩⟩
    by_cases hp : plainD d = true
    · rw [hp]
      refine iteT ⟨_, rfl, _, _, rfl, rfl, ?_⟩
      have := q H1 s1
      rw [show lbS n d l = l - 1 by cases n <;> rw [lbS, if_pos hp]] at this
      exact this
    · rw [Bool.not_eq_true] at hp
      rw [hp]
      refine iteF ⟨_, rfl, rfl, _, rfl, ?_⟩
      cases n with
      | zero =>
        have := q H1 s1
        rw [show lbS 0 d l = -1 by rw [lbS, if_neg (by rw [hp]; simp)]] at this
        rw [show decide (V.int ((12 - 0 : Nat) : Int) = V.int 12) = true from decide_eq_true rfl]
        exact iteT ⟨_, rfl, this⟩
      | succ n =>
        have e1 : lbS (n + 1) d l = if headD d = true then lbRof (lbS n) (thirdD d) (l - 1) else -1 := by rw [lbS, if_neg (by rw [hp]; simp)]
        rw [e1] at q
        rw [show decide (V.int ((12 - (n + 1) : Nat) : Int) = V.int 12) = false from decide_eq_false fun h => by injection h with h; omega]
        refine iteF ⟨_, rfl, v, d, rfl, dp_same s1 hd, ht, _, rfl, ?_⟩
        by_cases hh : headD d = true
        · rw [if_pos hh] at q
          rw [hh]
          obtain ⟨m, c, rfl, hm⟩ := head_enc.mp hh
          obtain ⟨p, va, vb, vc, rfl, hT, ha, hb, hc⟩ := dp_three (dp_same s1 hd)
          obtain ⟨_, _, tc⟩ := ht.three
          have eR := hR n rfl
          subst eR
          refine iteF ⟨_, rfl, p, _, 2, vc, rfl, rfl, hT, rfl, _, rfl, _, _, rfl, rfl, _, rfl, _, _, rfl, rfl, vc, c, l - 1, ?_, by omega, hc, tc, fun H2 s2 => q H2 (sm_trans s1 s2)⟩
          show [vc, V.int (((12 - (n + 1) : Nat) : Int) + 1), V.int (l - 1)] = _
          rw [show ((12 - (n + 1) : Nat) : Int) + 1 = ((12 - n : Nat) : Int) by omega]
        · rw [if_neg hh] at q
          rw [Bool.not_eq_true] at hh
          rw [hh]
          exact iteT ⟨_, rfl, q H1 s1⟩
theorem ok_lbs {k : Nat} (W : RowD K mg f_w f_n f_nu f_tu f_pl f_gh f_ls f_lb f_ir d_w d_n d_nu d_tu d_pl d_gh d_ls d_lb d_ir) : ∀ n, FnOk P w K mg base CX0 (k + 5 + 2 * n) f_ls d_ls ["step", "deep", "left"] (spLbS K n)
  | 0 => ok_ls_of (k := k + 4) (spR := fun _ _ _ _ => False) W (by omega) (W.lb.F.ok scLb (fun vs H Q E h => h.elim) (fun cdv A outer s H vs Q E hr h => h.elim)) fun m e => by cases e
  | n + 1 => ok_ls_of (k := k + 5 + 2 * n + 1) W (by omega) (ok_lb_of W (by omega) (ok_lbs W n)) fun m e => by cases e; rfl
def spIsRow (K : PySem.W.Frag) : Sp := fun vs H Q _ => ∃ v d, vs = [v] ∧ Dp K H v d ∧ TrOk d ∧ ∀ H', Same H H' → Q (.bl (isRowD d)) H'
theorem ok_ir {k : Nat} (W : RowD K mg f_w f_n f_nu f_tu f_pl f_gh f_ls f_lb f_ir d_w d_n d_nu d_tu d_pl d_gh d_ls d_lb d_ir) : FnOk P w K mg base CX0 (k + 31) f_ir d_ir ["tree"] (spIsRow K) := by
  obtain ⟨_, hSt⟩ := W.cMOST_STEPS
  have GR : FnOk P w K mg base CX0 (k + 30) f_lb d_lb ["row", "deep", "left"] (spLbR K 12) := ok_lb_of (k := k + 29) W (by omega) (ok_lbs W 12)
  refine W.ir.F.ok scIsRow (fun vs H Q E h => ?_) (fun cdv A outer st H vs Q E hr h => ?_)
  · obtain ⟨v, d, rfl, _⟩ := h
    rfl
  · obtain ⟨v, d, rfl, hd, ht, q⟩ := h
    refine ⟨_, (pss_one (ps_ret (pe_cmpR op_ge (pe_call GR hr rfl W.lb.g W.lb.F.kp W.lb.b .nil pass0 (pa_cons (pv 0) (pa_cons pe_int (pa_cons (pe_glob (v := .int 60) rfl hSt ⟨_, rfl⟩) pa_nil)))) pe_int (nomark _)))), ?_⟩
    exact ⟨_, rfl, v, d, 60, rfl, by omega, hd, ht, fun H' s => ⟨_, _, rfl, rfl, q H' s⟩⟩
end
end NC
namespace NC
open PySem PySem.Spec PyProof.Rows L2
abbrev sSame : Stmt := topS 36
theorem scSame : FnScope ["_law_x", "_law_due", "_law_k"] ["_law_x", "_law_due"] (defScope sSame) := ⟨rfl, rfl, rfl, by decide +kernel, rfl, by decide +kernel, by decide +kernel⟩
theorem ty_sql {K : PySem.W.Frag} {H : Hp} {a : Addr} {xs : List V} (h : SqL K H a xs) : TyX K H (.ref a) (.type "list") := by
  rcases h with (h | ⟨o, h⟩) | ⟨o, its, n, h1, h2, _⟩
  · exact .base (.lst h)
  · exact .base (.frz h)
  · exact .kList h1 h2
theorem ty_sqt {K : PySem.W.Frag} {H : Hp} {a : Addr} {xs : List V} (h : SqT K H a xs) : TyX K H (.ref a) (.type "tuple") := by
  rcases h with (h | ⟨o, h⟩) | ⟨o, its, n, h1, h2, _⟩
  · exact .base (.tup h)
  · exact .fTuple h
  · exact .kTuple h1 h2
/-- two things that are the same all through, at most n lists or tuples within one another -/
inductive Alk (K : PySem.W.Frag) (H : Hp) : Nat → V → V → Prop where
  | str {n : Nat} (a : Str) : Alk K H n (.str a) (.str a)
  | bl {n : Nat} (a : Bool) : Alk K H n (.bl a) (.bl a)
  | int {n : Nat} (a : Int) : Alk K H n (.int a) (.int a)
  | non {n : Nat} : Alk K H n .non .non
  | lst {n : Nat} {p r : Addr} {xs ys : List V} (ep : SqL K H p xs) (er : SqL K H r ys) (hl : xs.length = ys.length) (h5 : ys.length ≤ 5000) (h : ∀ (i : Nat) a b, xs[i]? = some a → ys[i]? = some b → Alk K H n a b) : Alk K H (n + 1) (.ref p) (.ref r)
  | tup {n : Nat} {p r : Addr} {xs ys : List V} (ep : SqT K H p xs) (er : SqT K H r ys) (hl : xs.length = ys.length) (h5 : ys.length ≤ 5000) (h : ∀ (i : Nat) a b, xs[i]? = some a → ys[i]? = some b → Alk K H n a b) : Alk K H (n + 1) (.ref p) (.ref r)
theorem Alk.same {K : PySem.W.Frag} {H H' : Hp} (s : Same H H') : ∀ {n : Nat} {x y : V}, Alk K H n x y → Alk K H' n x y
  | _, _, _, .str a => .str a
  | _, _, _, .bl a => .bl a
  | _, _, _, .int a => .int a
  | _, _, _, .non => .non
  | _, _, _, .lst ep er hl h5 h => .lst (sm_l s ep) (sm_l s er) hl h5 fun i a b ha hb => (h i a b ha hb).same s
  | _, _, _, .tup ep er hl h5 h => .tup (sm_t s ep) (sm_t s er) hl h5 fun i a b ha hb => (h i a b ha hb).same s
section
variable {P : Program} {w : World} {K : PySem.W.Frag} {mg : Str → Option Value} {base : Heap}
/-- yes alone: only of what is the same -/
def spYes (K : PySem.W.Frag) : Nat → Sp := fun n vs H Q _ => ∃ x y, vs = [x, y] ∧ Alk K H n x y ∧ ∀ H', Same H H' → Q (.bl true) H'
def spNo : Sp := fun _ _ _ _ => False
theorem range_true (n : Nat) : ((List.range n).map fun _ => true).all id = true := by
  rw [List.all_eq_true]
  intro x hx
  obtain ⟨_, _, e⟩ := List.mem_map.mp hx
  rw [← e]
  rfl
theorem dec_self (x : V) : decide (x = x) = true := decide_eq_true rfl
set_option maxHeartbeats 2000000 in
theorem ok_yes1 {f : Addr} {fd : FuncData} {k : Nat} {spR : Sp} {n : Nat} (B : BM mg) (hb : mg "bool" = none) (hst : mg "str" = none) (D : DF K mg "_law_same" sSame ["_law_x", "_law_due"] f fd) (GS : FnOk P w K mg base CX0 k f fd ["_law_x", "_law_due"] spR)
    (hR : ∀ m, n = m + 1 → ∀ a b H (Q : VK) E, Alk K H m a b → (∀ H', Same H H' → Q (.bl true) H') → spR [a, b] H Q E) :
    FnOk P w K mg base CX0 (k + 1) f fd ["_law_x", "_law_due"] (spYes K n) := by
  refine D.F.ok scSame (fun vs H Q E h => ?_) (fun cdv A outer s H vs Q E hr h => ?_)
  · obtain ⟨x, y, rfl, _⟩ := h
    rfl
  · obtain ⟨x, y, rfl, al, q⟩ := h
    refine ⟨_, pss_cons (ps_if (pt_val (pe_callB call_isiT (by rfl) B.isinstance boot_isi (pa_cons (pv 1) (pa_cons (pe_tup (pa_cons (pe_bltn (v := .ty "list") (by rfl) B.list (by decide +kernel) rfl) (pa_cons (pe_bltn (v := .ty "tuple") (by rfl) B.tuple (by decide +kernel) rfl) pa_nil))) pa_nil))))
        (pss_cons (ps_if (PW.pt (pw_or
            (pt_cmpR op_ne (pe_callB call_isi (by rfl) B.isinstance boot_isi (pa_cons (pv 1) (pa_cons (pe_bltn (v := .ty "list") (by rfl) B.list (by decide +kernel) rfl) pa_nil))) (pe_callB call_isi (by rfl) B.isinstance boot_isi (pa_cons (pv 0) (pa_cons (pe_bltn (v := .ty "list") (by rfl) B.list (by decide +kernel) rfl) pa_nil))) (nomark _))
            (pw_or1 (pt_cmpR op_ne (pe_callB call_isi (by rfl) B.isinstance boot_isi (pa_cons (pv 1) (pa_cons (pe_bltn (v := .ty "tuple") (by rfl) B.tuple (by decide +kernel) rfl) pa_nil))) (pe_callB call_isi (by rfl) B.isinstance boot_isi (pa_cons (pv 0) (pa_cons (pe_bltn (v := .ty "tuple") (by rfl) B.tuple (by decide +kernel) rfl) pa_nil))) (nomark _)))))
          (pss_one (ps_ret pe_bl)) pss_nil)
        (pss_one (ps_ret (pe_and (pe_cmpR op_eq (pe_callB call_len_seq (by rfl) B.len PySem.boot_len (pa_cons (pv 0) pa_nil)) (pe_callB call_len_seq (by rfl) B.len PySem.boot_len (pa_cons (pv 1) pa_nil)) (nomark _))
          (pe_one (pe_callB (cr_all rfl) (by rfl) B.all (by decide +kernel) (pa_cons (pe_lc (own := [("_law_k", 2)]) (g := gName 2) (tt := tYes) (te := tCall spR [] E0 (tCons (tOp (fun x y H Q => rIxL K x y H Q ∨ rIxT K x y H Q) (tVar 0) (tVar 2)) (tCons (tOp (fun x y H Q => rIxL K x y H Q ∨ rIxT K x y H Q) (tVar 1) (tVar 2)) tNil))) rfl scSame.nd (pi_range1 (by rfl) B.range (pa_cons (pe_callB call_len_seq (by rfl) B.len PySem.boot_len (pa_cons (pv 1) pa_nil)) pa_nil))
            (blkOk_by (N := ["_law_x", "_law_due", "_law_k"]) (sc := defScope sSame) (by decide +kernel)) (fun _ _ _ _ _ => pg_name (i := 2) scSame.nd rfl (Or.inl rfl)) (fun _ _ _ _ _ => pts_nil)
            (fun _ _ _ _ _ => pe_call GS hr rfl D.g D.F.kp D.b .nil pass0 (pa_cons (pe_ix (IxR.or ix_list ix_tup) (pv 0) (pv 2) (fun _ _ => rfl)) (pa_cons (pe_ix (IxR.or ix_list ix_tup) (pv 1) (pv 2) (fun _ _ => rfl)) pa_nil)))) pa_nil)))))))
        pss_nil)
      (pss_cons (ps_if (PW.pt (pw_or
            (pt_cmpR op_ne (pe_callB call_isi (by rfl) B.isinstance boot_isi (pa_cons (pv 0) (pa_cons (pe_bltn (v := .ty "bool") (by rfl) hb (by decide +kernel) rfl) pa_nil))) (pe_callB call_isi (by rfl) B.isinstance boot_isi (pa_cons (pv 1) (pa_cons (pe_bltn (v := .ty "bool") (by rfl) hb (by decide +kernel) rfl) pa_nil))) (nomark _))
            (pw_or1 (pt_cmpR op_ne (pe_callB call_isi (by rfl) B.isinstance boot_isi (pa_cons (pv 0) (pa_cons (pe_bltn (v := .ty "str") (by rfl) hst (by decide +kernel) rfl) pa_nil))) (pe_callB call_isi (by rfl) B.isinstance boot_isi (pa_cons (pv 1) (pa_cons (pe_bltn (v := .ty "str") (by rfl) hst (by decide +kernel) rfl) pa_nil))) (nomark _)))))
          (pss_one (ps_ret pe_bl)) pss_nil)
      (pss_one (ps_ret (pe_and (pe_cmpR op_eq (pe_cmp (pc_isN (pv 0))) (pe_cmp (pc_isN (pv 1))) (nomark _)) (pe_one (pe_cmpR op_eq (pv 0) (pv 1) (nomark _))))))), ?_⟩
    cases al with
    | str a =>
      refine ⟨_, rfl, by show 2 ≤ sizeLine; decide, fun T nT => ⟨_, T, _, .type "str", [.type "list", .type "tuple"], false, rfl, upd_same, .cons (.ty _) (.cons (.ty _) .nil), .base (.str _), kitAny_cons (kit_ty (b := "list") (r := false) (by decide +kernel)) (fun _ => kitAny_cons (kit_ty (b := "tuple") (r := false) (by decide +kernel)) (fun _ => rfl) (fun z => by cases z)) (fun z => by cases z), _, rfl, iteF ?_⟩⟩
      refine ⟨_, rfl, _, _, .type "str", .type "bool", false, rfl, .ty _, .base (.str _), kit_ty (by decide +kernel), _, rfl, _, _, .type "str", .type "bool", false, rfl, .ty _, .base (.str _), kit_ty (by decide +kernel), rfl, _, rfl, ite2 (fun z => absurd z (by decide)) (fun _ => ?_)⟩
      refine ⟨_, rfl, _, _, .type "str", .type "str", true, rfl, .ty _, .base (.str _), kit_ty (by decide +kernel), _, rfl, _, _, .type "str", .type "str", true, rfl, .ty _, .base (.str _), kit_ty (by decide +kernel), rfl, _, rfl, ite2 (fun z => absurd z (by decide)) (fun _ => ?_)⟩
      refine ⟨_, rfl, _, rfl, rfl, _, rfl, ?_⟩
      rw [dec_self]
      refine iteT ⟨_, rfl, _, rfl, rfl, ?_⟩
      rw [dec_self]
      exact q _ (same_upd nT)
    | bl a =>
      refine ⟨_, rfl, by show 2 ≤ sizeLine; decide, fun T nT => ⟨_, T, _, .type "bool", [.type "list", .type "tuple"], false, rfl, upd_same, .cons (.ty _) (.cons (.ty _) .nil), .base (.bl _), kitAny_cons (kit_ty (b := "list") (r := false) (by decide +kernel)) (fun _ => kitAny_cons (kit_ty (b := "tuple") (r := false) (by decide +kernel)) (fun _ => rfl) (fun z => by cases z)) (fun z => by cases z), _, rfl, iteF ?_⟩⟩
      refine ⟨_, rfl, _, _, .type "bool", .type "bool", true, rfl, .ty _, .base (.bl _), kit_ty (by decide +kernel), _, rfl, _, _, .type "bool", .type "bool", true, rfl, .ty _, .base (.bl _), kit_ty (by decide +kernel), rfl, _, rfl, ite2 (fun z => absurd z (by decide)) (fun _ => ?_)⟩
      refine ⟨_, rfl, _, _, .type "bool", .type "str", false, rfl, .ty _, .base (.bl _), kit_ty (by decide +kernel), _, rfl, _, _, .type "bool", .type "str", false, rfl, .ty _, .base (.bl _), kit_ty (by decide +kernel), rfl, _, rfl, ite2 (fun z => absurd z (by decide)) (fun _ => ?_)⟩
      refine ⟨_, rfl, _, rfl, rfl, _, rfl, ?_⟩
      rw [dec_self]
      refine iteT ⟨_, rfl, _, rfl, rfl, ?_⟩
      rw [dec_self]
      exact q _ (same_upd nT)
    | int a =>
      refine ⟨_, rfl, by show 2 ≤ sizeLine; decide, fun T nT => ⟨_, T, _, .type "int", [.type "list", .type "tuple"], false, rfl, upd_same, .cons (.ty _) (.cons (.ty _) .nil), .base (.int _), kitAny_cons (kit_ty (b := "list") (r := false) (by decide +kernel)) (fun _ => kitAny_cons (kit_ty (b := "tuple") (r := false) (by decide +kernel)) (fun _ => rfl) (fun z => by cases z)) (fun z => by cases z), _, rfl, iteF ?_⟩⟩
      refine ⟨_, rfl, _, _, .type "int", .type "bool", false, rfl, .ty _, .base (.int _), kit_ty (by decide +kernel), _, rfl, _, _, .type "int", .type "bool", false, rfl, .ty _, .base (.int _), kit_ty (by decide +kernel), rfl, _, rfl, ite2 (fun z => absurd z (by decide)) (fun _ => ?_)⟩
      refine ⟨_, rfl, _, _, .type "int", .type "str", false, rfl, .ty _, .base (.int _), kit_ty (by decide +kernel), _, rfl, _, _, .type "int", .type "str", false, rfl, .ty _, .base (.int _), kit_ty (by decide +kernel), rfl, _, rfl, ite2 (fun z => absurd z (by decide)) (fun _ => ?_)⟩
      refine ⟨_, rfl, _, rfl, rfl, _, rfl, ?_⟩
      rw [dec_self]
      refine iteT ⟨_, rfl, _, rfl, rfl, ?_⟩
      rw [dec_self]
      exact q _ (same_upd nT)
    | non =>
      refine ⟨_, rfl, by show 2 ≤ sizeLine; decide, fun T nT => ⟨_, T, _, .type "NoneType", [.type "list", .type "tuple"], false, rfl, upd_same, .cons (.ty _) (.cons (.ty _) .nil), .base .non, kitAny_cons (kit_ty (b := "list") (r := false) (by decide +kernel)) (fun _ => kitAny_cons (kit_ty (b := "tuple") (r := false) (by decide +kernel)) (fun _ => rfl) (fun z => by cases z)) (fun z => by cases z), _, rfl, iteF ?_⟩⟩
      refine ⟨_, rfl, _, _, .type "NoneType", .type "bool", false, rfl, .ty _, .base .non, kit_ty (by decide +kernel), _, rfl, _, _, .type "NoneType", .type "bool", false, rfl, .ty _, .base .non, kit_ty (by decide +kernel), rfl, _, rfl, ite2 (fun z => absurd z (by decide)) (fun _ => ?_)⟩
      refine ⟨_, rfl, _, _, .type "NoneType", .type "str", false, rfl, .ty _, .base .non, kit_ty (by decide +kernel), _, rfl, _, _, .type "NoneType", .type "str", false, rfl, .ty _, .base .non, kit_ty (by decide +kernel), rfl, _, rfl, ite2 (fun z => absurd z (by decide)) (fun _ => ?_)⟩
      refine ⟨_, rfl, _, rfl, rfl, _, rfl, ?_⟩
      rw [dec_self]
      refine iteT ⟨_, rfl, _, rfl, rfl, ?_⟩
      rw [dec_self]
      exact q _ (same_upd nT)
    | @lst m p r xs ys ep er hl h5 hal =>
      have s1 : ∀ {T : Addr}, H T = none → ∀ {o : HO}, SqL K (upd H T o) p xs ∧ SqL K (upd H T o) r ys := fun {T} nT {o} => ⟨sm_l (same_upd nT) ep, sm_l (same_upd nT) er⟩
      refine ⟨_, rfl, by show 2 ≤ sizeLine; decide, fun T nT => ⟨_, T, _, .type "list", [.type "list", .type "tuple"], true, rfl, upd_same, .cons (.ty _) (.cons (.ty _) .nil), (ty_sql (s1 nT).2), kitAny_cons (kit_ty (b := "list") (r := true) (by decide +kernel)) (fun z => by cases z) (fun _ => rfl), _, rfl, iteT ?_⟩⟩
      have sT : Same H (upd H T (.tup [V.ty "list", V.ty "tuple"])) := same_upd nT
      generalize (upd H T (.tup [V.ty "list", V.ty "tuple"])) = H1 at sT ⊢
      have ep1 := sm_l sT ep
      have er1 := sm_l sT er
      refine ⟨_, rfl, _, _, .type "list", .type "list", true, rfl, .ty _, (ty_sql er1), kit_ty (by decide +kernel), _, rfl, _, _, .type "list", .type "list", true, rfl, .ty _, (ty_sql ep1), kit_ty (by decide +kernel), rfl, _, rfl, ite2 (fun z => absurd z (by decide)) (fun _ => ?_)⟩
      refine ⟨_, rfl, _, _, .type "list", .type "tuple", false, rfl, .ty _, (ty_sql er1), kit_ty (by decide +kernel), _, rfl, _, _, .type "list", .type "tuple", false, rfl, .ty _, (ty_sql ep1), kit_ty (by decide +kernel), rfl, _, rfl, ite2 (fun z => absurd z (by decide)) (fun _ => ?_)⟩
      refine ⟨_, rfl, p, _, rfl, .inl (ep1), _, rfl, r, _, rfl, .inl (er1), rfl, _, rfl, ?_⟩
      rw [hl, dec_self]
      refine iteT ⟨_, rfl, r, _, rfl, .inl (er1), _, rfl, by omega, by omega, ?_⟩
      rw [show ((ys.length : Nat) : Int).toNat = ys.length by exact Int.toNat_natCast _]
      intro Da nD
      refine lc_it walk_range (fun i H' => Same H1 H' ∧ H' Da = some (.lst (((List.range i).map fun _ => true).map V.bl))) ⟨same_upd nD, upd_same⟩ (fun _ _ _ _ => trivial) ?_ ?_
      · rintro i v H2 H3 hi ⟨s2, e2⟩ ⟨rfl, rfl⟩
        have hx : i < xs.length := by omega
        have ax : atI xs (0 + (i : Int)) = some xs[i] := by
          rw [show (0 + (i : Int)) = ((i : Nat) : Int) by omega]
          exact atI_nat (List.getElem?_eq_getElem hx)
        have ay : atI ys (0 + (i : Int)) = some ys[i] := by
          rw [show (0 + (i : Int)) = ((i : Nat) : Int) by omega]
          exact atI_nat (List.getElem?_eq_getElem hi)
        refine ⟨rfl, yes_i ⟨_, rfl, _, rfl, .inl ⟨p, _, _, _, rfl, rfl, (sm_l s2 ep1), ax, _, rfl, _, rfl, .inl ⟨r, _, _, _, rfl, rfl, (sm_l s2 er1), ay, hR m rfl _ _ _ _ _ ((hal i _ _ (List.getElem?_eq_getElem hx) (List.getElem?_eq_getElem hi)).same (sm_trans sT s2)) fun H4 s4 => ⟨_, s4 _ _ e2, ?_, sm_over (sm_trans s2 s4) nD, ?_⟩⟩⟩⟩⟩
        · rw [List.length_map, List.length_map, List.length_range, sizeLine_eq]
          omega
        · rw [upd_same, List.range_succ, List.map_append, List.map_append]
          rfl
      · rintro H2 ⟨s2, e2⟩
        refine ⟨_, _, rfl, SqL.of e2, ?_⟩
        rw [range_true]
        exact q _ (sm_trans sT s2)
    | @tup m p r xs ys ep er hl h5 hal =>
      have s1 : ∀ {T : Addr}, H T = none → ∀ {o : HO}, SqT K (upd H T o) p xs ∧ SqT K (upd H T o) r ys := fun {T} nT {o} => ⟨sm_t (same_upd nT) ep, sm_t (same_upd nT) er⟩
      refine ⟨_, rfl, by show 2 ≤ sizeLine; decide, fun T nT => ⟨_, T, _, .type "tuple", [.type "list", .type "tuple"], true, rfl, upd_same, .cons (.ty _) (.cons (.ty _) .nil), (ty_sqt (s1 nT).2), kitAny_cons (kit_ty (b := "list") (r := false) (by decide +kernel)) (fun _ => kitAny_cons (kit_ty (b := "tuple") (r := true) (by decide +kernel)) (fun z => by cases z) (fun _ => rfl)) (fun z => by cases z), _, rfl, iteT ?_⟩⟩
      have sT : Same H (upd H T (.tup [V.ty "list", V.ty "tuple"])) := same_upd nT
      generalize (upd H T (.tup [V.ty "list", V.ty "tuple"])) = H1 at sT ⊢
      have ep1 := sm_t sT ep
      have er1 := sm_t sT er
      refine ⟨_, rfl, _, _, .type "tuple", .type "list", false, rfl, .ty _, (ty_sqt er1), kit_ty (by decide +kernel), _, rfl, _, _, .type "tuple", .type "list", false, rfl, .ty _, (ty_sqt ep1), kit_ty (by decide +kernel), rfl, _, rfl, ite2 (fun z => absurd z (by decide)) (fun _ => ?_)⟩
      refine ⟨_, rfl, _, _, .type "tuple", .type "tuple", true, rfl, .ty _, (ty_sqt er1), kit_ty (by decide +kernel), _, rfl, _, _, .type "tuple", .type "tuple", true, rfl, .ty _, (ty_sqt ep1), kit_ty (by decide +kernel), rfl, _, rfl, ite2 (fun z => absurd z (by decide)) (fun _ => ?_)⟩
      refine ⟨_, rfl, p, _, rfl, .inr (ep1), _, rfl, r, _, rfl, .inr (er1), rfl, _, rfl, ?_⟩
      rw [hl, dec_self]
      refine iteT ⟨_, rfl, r, _, rfl, .inr (er1), _, rfl, by omega, by omega, ?_⟩
      rw [show ((ys.length : Nat) : Int).toNat = ys.length by exact Int.toNat_natCast _]
      intro Da nD
      refine lc_it walk_range (fun i H' => Same H1 H' ∧ H' Da = some (.lst (((List.range i).map fun _ => true).map V.bl))) ⟨same_upd nD, upd_same⟩ (fun _ _ _ _ => trivial) ?_ ?_
      · rintro i v H2 H3 hi ⟨s2, e2⟩ ⟨rfl, rfl⟩
        have hx : i < xs.length := by omega
        have ax : atI xs (0 + (i : Int)) = some xs[i] := by
          rw [show (0 + (i : Int)) = ((i : Nat) : Int) by omega]
          exact atI_nat (List.getElem?_eq_getElem hx)
        have ay : atI ys (0 + (i : Int)) = some ys[i] := by
          rw [show (0 + (i : Int)) = ((i : Nat) : Int) by omega]
          exact atI_nat (List.getElem?_eq_getElem hi)
        refine ⟨rfl, yes_i ⟨_, rfl, _, rfl, .inr ⟨p, _, _, _, rfl, rfl, (sm_t s2 ep1), ax, _, rfl, _, rfl, .inr ⟨r, _, _, _, rfl, rfl, (sm_t s2 er1), ay, hR m rfl _ _ _ _ _ ((hal i _ _ (List.getElem?_eq_getElem hx) (List.getElem?_eq_getElem hi)).same (sm_trans sT s2)) fun H4 s4 => ⟨_, s4 _ _ e2, ?_, sm_over (sm_trans s2 s4) nD, ?_⟩⟩⟩⟩⟩
        · rw [List.length_map, List.length_map, List.length_range, sizeLine_eq]
          omega
        · rw [upd_same, List.range_succ, List.map_append, List.map_append]
          rfl
      · rintro H2 ⟨s2, e2⟩
        refine ⟨_, _, rfl, SqL.of e2, ?_⟩
        rw [range_true]
        exact q _ (sm_trans sT s2)
theorem ok_yes {f : Addr} {fd : FuncData} {k : Nat} (B : BM mg) (hb : mg "bool" = none) (hst : mg "str" = none) (D : DF K mg "_law_same" sSame ["_law_x", "_law_due"] f fd) : ∀ n, FnOk P w K mg base CX0 (k + n + 2) f fd ["_law_x", "_law_due"] (spYes K n)
  | 0 => ok_yes1 (spR := spNo) B hb hst D (D.F.ok scSame (fun vs H Q E h => h.elim) (fun cdv A outer s H vs Q E hr h => h.elim)) fun m e => by cases e
  | n + 1 => ok_yes1 B hb hst D (ok_yes B hb hst D n) fun m e a b H Q E al q => by
    cases e
    exact ⟨a, b, rfl, al, q⟩
end
end NC
namespace NC
open PySem PySem.Spec PyProof.Rows L2
structure Ops (α : Type) where
  w0 : α
  oS : Stp → α
  jn : α → α → Option α
  rp : α → Nat → α
section
variable {α : Type}
mutual
def evS (O : Ops α) (env : List Nat → Option α) : Stp → Option α
  | .times m r => (evR O env r O.w0).map fun w => O.rp w m
  | .row n => env n
  | .call s => some (O.oS (.call s))
  | .turn s => some (O.oS (.turn s))
def evR (O : Ops α) (env : List Nat → Option α) : List Stp → α → Option α
  | [], a => some a
  | s :: r, a => (evS O env s).bind fun x => (O.jn a x).bind fun b => evR O env r b
end
mutual
def mdS (dn : List Nat → Nat) : Stp → Nat
  | .times _ r => mdR dn r + 1
  | .row n => dn n + 1
  | .call _ => 0
  | .turn _ => 0
def mdR (dn : List Nat → Nat) : List Stp → Nat
  | [] => 0
  | s :: r => max (mdS dn s) (mdR dn r)
end
mutual
def inS (bk : List Nat → Option (List Stp)) : Stp → Prop
  | .times _ r => inR bk r
  | .row n => (bk n).isSome = true
  | .call _ => True
  | .turn _ => True
def inR (bk : List Nat → Option (List Stp)) : List Stp → Prop
  | [] => True
  | s :: r => inS bk s ∧ inR bk r
end
structure Fr (α : Type) where
  todo : List Stp
  nm : Option (List Nat)
  many : Nat
  wt : α
abbrev ND (α : Type) := List Nat → Option (Option α)
def ndP (nd : ND α) (n : List Nat) (v : Option α) : ND α := fun m => if m = n then some v else nd m
def ndF (nd : ND α) (nm : Option (List Nat)) (w : α) : ND α :=
  match nm with
  | none => nd
  | some n => ndP nd n (some w)
structure Mch (α : Type) where
  fs : List (Fr α)
  nd : ND α
inductive Nx (α : Type) where
  | go (s : Mch α)
  | over
  | dead
inductive Rs (α : Type) where
  | done (w : α)
  | over
  | dead
def beginM (O : Ops α) (r : List Stp) (nm : Option (List Nat)) (k : Nat) (s : Mch α) : Nx α := if s.fs.length < 1000 then .go ⟨⟨r, nm, k, O.w0⟩ :: s.fs, s.nd⟩ else .dead
def addM (O : Ops α) (w : α) (s : Mch α) : Nx α :=
  match s.fs with
  | [] => .dead
  | f :: fs => match O.jn f.wt w with
    | none => .over
    | some b => .go ⟨⟨f.todo, f.nm, f.many, b⟩ :: fs, s.nd⟩
def nameM (O : Ops α) (bk : List Nat → Option (List Stp)) (n : List Nat) (s : Mch α) : Nx α :=
  match bk n with
  | none => .dead
  | some r => match s.nd n with
    | none => beginM O r (some n) 1 ⟨s.fs, ndP s.nd n none⟩
    | some none => .dead
    | some (some w) => addM O w s
def stepM (O : Ops α) (bk : List Nat → Option (List Stp)) (x : Stp) (s : Mch α) : Nx α :=
  match x with
  | .times m r => beginM O r none m s
  | .row n => nameM O bk n s
  | .call t => addM O (O.oS (.call t)) s
  | .turn t => addM O (O.oS (.turn t)) s
def finM (O : Ops α) (s : Mch α) : Nx α :=
  match s.fs with
  | [] => .dead
  | f :: fs => addM O (O.rp f.wt f.many) ⟨fs, ndF s.nd f.nm (O.rp f.wt f.many)⟩
def turnM (O : Ops α) (bk : List Nat → Option (List Stp)) (s : Mch α) : Nx α :=
  match s.fs with
  | [] => .dead
  | f :: fs => match f.todo with
    | [] => finM O s
    | x :: r => stepM O bk x ⟨⟨r, f.nm, f.many, f.wt⟩ :: fs, s.nd⟩
def isEnd (s : Mch α) : Option α :=
  match s.fs with
  | [f] => if f.todo.isEmpty = true then some f.wt else none
  | _ => none
def runM (O : Ops α) (bk : List Nat → Option (List Stp)) : Nat → Mch α → Rs α
  | 0, _ => .dead
  | k + 1, s => match isEnd s with
    | some w => .done w
    | none => match turnM O bk s with
      | .go s' => runM O bk k s'
      | .over => .over
      | .dead => .dead
structure BkOk (O : Ops α) (bk : List Nat → Option (List Stp)) (env : List Nat → Option α) (dn : List Nat → Nat) : Prop where
  md : ∀ n r, bk n = some r → mdR dn r ≤ dn n
  ok : ∀ n r, bk n = some r → inR bk r
  ev : ∀ n r, bk n = some r → env n = (evR O env r O.w0).map fun w => O.rp w 1
def GoesTo (O : Ops α) (bk : List Nat → Option (List Stp)) (nd : ND α) (s : Mch α) (e : Option α) (t : α → ND α → Mch α) (env : List Nat → Option α) : Prop :=
  match e with
  | none => ∃ c, ∀ m, runM O bk (c + m) s = .over
  | some b => ∃ c nd', (∀ n w, nd' n = some (some w) → env n = some w) ∧ (∀ n, nd' n = some none ↔ nd n = some none) ∧ ∀ m, runM O bk (c + m) s = runM O bk m (t b nd')
variable {O : Ops α} {bk : List Nat → Option (List Stp)} {env : List Nat → Option α} {dn : List Nat → Nat}
theorem run_turn {s s' : Mch α} (h : isEnd s = none) (e : turnM O bk s = .go s') (m : Nat) : runM O bk (1 + m) s = runM O bk m s' := by
  rw [Nat.add_comm, runM, h, e]
theorem run_over {s : Mch α} (h : isEnd s = none) (e : turnM O bk s = .over) (m : Nat) : runM O bk (1 + m) s = .over := by
  rw [Nat.add_comm, runM, h, e]
theorem notEnd (x : Stp) (r : List Stp) (nm : Option (List Nat)) (k : Nat) (a : α) (fs : List (Fr α)) (nd : ND α) : isEnd (⟨⟨x :: r, nm, k, a⟩ :: fs, nd⟩ : Mch α) = none := by
  cases fs <;> rfl
theorem notEnd2 (f g : Fr α) (fs : List (Fr α)) (nd : ND α) : isEnd (⟨f :: g :: fs, nd⟩ : Mch α) = none := rfl
theorem GoesTo.after {nd nd1 : ND α} {s s1 : Mch α} {e : Option α} {t : α → ND α → Mch α} {c : Nat} (h : ∀ m, runM O bk (c + m) s = runM O bk m s1) (hi : ∀ n, nd1 n = some none ↔ nd n = some none) (g : GoesTo O bk nd1 s1 e t env) : GoesTo O bk nd s e t env := by
  cases e with
  | none =>
    obtain ⟨c2, g⟩ := g
    refine ⟨c + c2, fun m => ?_⟩
    rw [Nat.add_assoc, h, g]
  | some b =>
    obtain ⟨c2, nd', g1, g2, g⟩ := g
    refine ⟨c + c2, nd', g1, fun n => (g2 n).trans (hi n), fun m => ?_⟩
    rw [Nat.add_assoc, h, g]
/-- a worth is added, then the rest -/
theorem add_then {x a : α} {r rest : List Stp} {nm : Option (List Nat)} {k : Nat} {fs : List (Fr α)} {nd nd1 : ND α} {s : Mch α} {c : Nat}
    (hi : ∀ n, nd1 n = some none ↔ nd n = some none)
    (h : ∀ b, O.jn a x = some b → ∀ m, runM O bk (c + m) s = runM O bk m ⟨⟨r ++ rest, nm, k, b⟩ :: fs, nd1⟩)
    (h0 : O.jn a x = none → ∀ m, runM O bk (c + m) s = .over)
    (g : ∀ b, GoesTo O bk nd1 ⟨⟨r ++ rest, nm, k, b⟩ :: fs, nd1⟩ (evR O env r b) (fun b nd' => ⟨⟨rest, nm, k, b⟩ :: fs, nd'⟩) env) :
    GoesTo O bk nd s ((O.jn a x).bind fun b => evR O env r b) (fun b nd' => ⟨⟨rest, nm, k, b⟩ :: fs, nd'⟩) env := by
  cases e : O.jn a x with
  | none => exact ⟨c, h0 e⟩
  | some b =>
    exact GoesTo.after (h b e) hi (g b)
theorem run_row (B : BkOk O bk env dn) : ∀ (d : Nat) (r : List Stp), mdR dn r ≤ d → inR bk r → ∀ (a : α) (rest : List Stp) (nm : Option (List Nat)) (k : Nat) (fs : List (Fr α)) (nd : ND α),
    (∀ n w, nd n = some (some w) → env n = some w) → (∀ n, nd n = some none → d ≤ dn n) → fs.length + 1 + d ≤ 1000 →
    GoesTo O bk nd ⟨⟨r ++ rest, nm, k, a⟩ :: fs, nd⟩ (evR O env r a) (fun b nd' => ⟨⟨rest, nm, k, b⟩ :: fs, nd'⟩) env := by
  intro d
  induction d using Nat.strongRecOn with
  | _ d IH =>
    intro r
    induction r with
    | nil =>
      intro _ _ a rest nm k fs nd va ip hl
      rw [evR]
      exact ⟨0, nd, va, fun _ => Iff.rfl, fun m => by rw [Nat.zero_add]; rfl⟩
    | cons x r ih =>
      intro hd hok a rest nm k fs nd va ip hl
      rw [mdR] at hd
      rw [inR] at hok
      have go := fun b nd1 v1 i1 => ih (by omega) hok.2 b rest nm k fs nd1 v1 i1 hl
      have plain : ∀ w : α, turnM O bk ⟨⟨x :: (r ++ rest), nm, k, a⟩ :: fs, nd⟩ = addM O w ⟨⟨r ++ rest, nm, k, a⟩ :: fs, nd⟩ → evS O env x = some w →
          GoesTo O bk nd ⟨⟨x :: r ++ rest, nm, k, a⟩ :: fs, nd⟩ (evR O env (x :: r) a) (fun b nd' => ⟨⟨rest, nm, k, b⟩ :: fs, nd'⟩) env := by
        intro w ht ev
        rw [evR, ev]
        refine add_then (c := 1) (nd1 := nd) (x := w) (a := a) (r := r) (fun _ => Iff.rfl) (fun b e m => run_turn (notEnd ..) ?_ m) (fun e m => run_over (notEnd ..) ?_ m) (fun b => go b nd va ip)
        · show turnM O bk ⟨⟨x :: (r ++ rest), nm, k, a⟩ :: fs, nd⟩ = _
          rw [ht, addM]
          show (match O.jn a w with | none => Nx.over | some b => .go ⟨⟨r ++ rest, nm, k, b⟩ :: fs, nd⟩) = _
          rw [e]
        · show turnM O bk ⟨⟨x :: (r ++ rest), nm, k, a⟩ :: fs, nd⟩ = _
          rw [ht, addM]
          show (match O.jn a w with | none => Nx.over | some b => .go ⟨⟨r ++ rest, nm, k, b⟩ :: fs, nd⟩) = _
          rw [e]
      -- an inner row
      have inner : ∀ (d' : Nat) (r' : List Stp) (nm' : Option (List Nat)) (k' : Nat) (nd1 : ND α), d' < d → mdR dn r' ≤ d' → inR bk r' → (∀ n w, nd1 n = some (some w) → env n = some w) → (∀ n, nd1 n = some none → d' ≤ dn n) →
          turnM O bk ⟨⟨x :: (r ++ rest), nm, k, a⟩ :: fs, nd⟩ = beginM O r' nm' k' ⟨⟨r ++ rest, nm, k, a⟩ :: fs, nd1⟩ →
          (∀ w, evR O env r' O.w0 = some w → ∀ n, nm' = some n → env n = some (O.rp w k')) →
          (∀ nd2 : ND α, (∀ n, nd2 n = some none ↔ nd1 n = some none) → ∀ w, ∀ n, ndF nd2 nm' w n = some none ↔ nd n = some none) →
          evS O env x = (evR O env r' O.w0).map (fun w => O.rp w k') →
          GoesTo O bk nd ⟨⟨x :: r ++ rest, nm, k, a⟩ :: fs, nd⟩ (evR O env (x :: r) a) (fun b nd' => ⟨⟨rest, nm, k, b⟩ :: fs, nd'⟩) env := by
        intro d' r' nm' k' nd1 hd' hr' hok' va1 ip1 ht hen hip ev
        have g1 := IH d' hd' r' hr' hok' O.w0 [] nm' k' (⟨r ++ rest, nm, k, a⟩ :: fs) nd1 va1 ip1 (by rw [List.length_cons]; omega)
        rw [List.append_nil] at g1
        have t1 : ∀ m, runM O bk (1 + m) ⟨⟨x :: r ++ rest, nm, k, a⟩ :: fs, nd⟩ = runM O bk m ⟨⟨r', nm', k', O.w0⟩ :: ⟨r ++ rest, nm, k, a⟩ :: fs, nd1⟩ := fun m => run_turn (notEnd ..) (by
          show turnM O bk ⟨⟨x :: (r ++ rest), nm, k, a⟩ :: fs, nd⟩ = _
          rw [ht, beginM, if_pos (by rw [List.length_cons]; omega)]) m
        rw [evR, ev]
        cases e : evR O env r' O.w0 with
        | none =>
          rw [e] at g1
          obtain ⟨c, g1⟩ := g1
          refine ⟨1 + c, fun m => ?_⟩
          rw [Nat.add_assoc, t1, g1]
        | some w =>
          rw [e] at g1
          obtain ⟨c, nd2, va2, ip2, g1⟩ := g1
          have hf : ∀ nd3 : ND α, nd3 = ndF nd2 nm' (O.rp w k') → turnM O bk ⟨⟨[], nm', k', w⟩ :: ⟨r ++ rest, nm, k, a⟩ :: fs, nd2⟩ = (match O.jn a (O.rp w k') with | none => Nx.over | some b => .go ⟨⟨r ++ rest, nm, k, b⟩ :: fs, nd3⟩) := by
            rintro nd3 rfl
            rfl
          have i3 := hip nd2 ip2 (O.rp w k')
          generalize h3 : ndF nd2 nm' (O.rp w k') = nd3 at i3
          have hf := hf nd3 h3.symm
          have va3 : ∀ n w, nd3 n = some (some w) → env n = some w := by
            subst h3
            cases nm' with
            | none => exact va2
            | some n0 =>
              intro n v hv
              by_cases z : n = n0
              · subst z
                have hv : ndP nd2 n (some (O.rp w k')) n = some (some v) := hv
                rw [ndP, if_pos rfl] at hv
                cases hv
                exact hen w e n rfl
              · have hv : ndP nd2 n0 (some (O.rp w k')) n = some (some v) := hv
                rw [ndP, if_neg z] at hv
                exact va2 n v hv
          have t2 : ∀ m, runM O bk (1 + c + m) ⟨⟨x :: r ++ rest, nm, k, a⟩ :: fs, nd⟩ = runM O bk m ⟨⟨[], nm', k', w⟩ :: ⟨r ++ rest, nm, k, a⟩ :: fs, nd2⟩ := fun m => by
            rw [Nat.add_assoc, t1, g1]
          refine add_then (c := 1 + c + 1) (nd1 := nd3) (x := O.rp w k') (a := a) (r := r) i3 (fun b eb m => ?_) (fun eb m => ?_) (fun b => go b nd3 va3 fun n hn => ip n ((i3 n).mp hn))
          · rw [Nat.add_assoc, t2]
            exact run_turn (notEnd2 ..) (by rw [hf, eb]) m
          · rw [Nat.add_assoc, t2]
            exact run_over (notEnd2 ..) (by rw [hf, eb]) m
      cases x with
      | call s => exact plain (O.oS (.call s)) rfl (by rw [evS])
      | turn s => exact plain (O.oS (.turn s)) rfl (by rw [evS])
      | times m r' =>
        rw [mdS] at hd
        refine inner (d - 1) r' none m nd (by omega) (by omega) ?_ va (fun n hn => Nat.le_trans (Nat.sub_le _ _) (ip n hn)) rfl (fun _ _ n hn => by cases hn) (fun nd2 h _ n => h n) (by rw [evS])
        have := hok.1
        rw [inS] at this
        exact this
      | row n =>
        rw [mdS] at hd
        have hn := hok.1
        rw [inS] at hn
        obtain ⟨r', hb⟩ := Option.isSome_iff_exists.mp hn
        cases e : nd n with
        | none =>
          refine inner (dn n) r' (some n) 1 (ndP nd n none) (by omega) (B.md n r' hb) (B.ok n r' hb) (fun n' w hw => ?_) (fun n' hw => ?_) ?_ (fun w hw n' hn' => ?_) (fun nd2 h w n' => ?_) ?_
          · by_cases z : n' = n
            · rw [ndP, if_pos z] at hw; cases hw
            · rw [ndP, if_neg z] at hw; exact va n' w hw
          · by_cases z : n' = n
            · rw [z]; exact Nat.le_refl _
            · rw [ndP, if_neg z] at hw
              have := ip n' hw
              omega
          · show nameM O bk n ⟨⟨r ++ rest, nm, k, a⟩ :: fs, nd⟩ = _
            unfold nameM
            rw [hb]
            show (match nd n with | none => _ | some none => _ | some (some w) => _) = _
            rw [e]
          · cases hn'
            rw [B.ev n r' hb, hw]
            rfl
          · show ndP nd2 n (some w) n' = some none ↔ _
            by_cases z : n' = n
            · rw [ndP, if_pos z, z, e]
              exact ⟨fun h => (by cases h), fun h => (by cases h)⟩
            · rw [ndP, if_neg z, h n', ndP, if_neg z]
          · rw [evS]
            exact B.ev n r' hb
        | some o =>
          cases o with
          | none =>
            have := ip n e
            omega
          | some w =>
            refine plain w ?_ (by rw [evS]; exact va n w e)
            show nameM O bk n ⟨⟨r ++ rest, nm, k, a⟩ :: fs, nd⟩ = _
            unfold nameM
            rw [hb]
            show (match nd n with | none => _ | some none => _ | some (some w) => _) = _
            rw [e]
/-- the whole of it -/
theorem run_whole (B : BkOk O bk env dn) {r : List Stp} (hd : mdR dn r ≤ 900) (ok : inR bk r) : ∃ c, runM O bk c ⟨[⟨r, none, 1, O.w0⟩], fun _ => none⟩ = (match evR O env r O.w0 with | none => .over | some w => .done w) := by
  have g := run_row B (mdR dn r) r (Nat.le_refl _) ok O.w0 [] none 1 [] (fun _ => none) (fun n w h => by cases h) (fun n h => by cases h) (by show 0 + 1 + _ ≤ _; omega)
  rw [List.append_nil] at g
  cases e : evR O env r O.w0 with
  | none =>
    rw [e] at g
    obtain ⟨c, g⟩ := g
    exact ⟨c, g 0⟩
  | some w =>
    rw [e] at g
    obtain ⟨c, nd', _, _, g⟩ := g
    refine ⟨c + 1, ?_⟩
    rw [g 1, runM]
    rfl
end
end NC
namespace NC
open PySem PySem.Spec PyProof.Rows L2
mutual
def alS (p : Stp → Prop) : Stp → Prop
  | .times m r => p (.times m []) ∧ alR p r
  | .row n => p (.row n)
  | .call s => p (.call s)
  | .turn s => p (.turn s)
def alR (p : Stp → Prop) : List Stp → Prop
  | [] => True
  | s :: r => alS p s ∧ alR p r
end
structure Cfg (α : Type) where
  SC : Addr
  RC : Addr
  ma : Addr
  bo : Addr
  H0 : Hp
  W : List Addr → Hp → V → α → Prop
  bk : List Nat → Option (List Stp)
  bkvs : List (Key × V)
  ps : Stp → Prop
  acc : α → Prop
  O : Ops α
  ER : XK → Prop
def nmV : Option (List Nat) → V
  | none => .non
  | some n => .str (tx n)
def flA : List (Addr × Addr) → List Addr
  | [] => []
  | p :: ps => p.1 :: p.2 :: flA ps
def mOf (r N L : Addr) (fa : List (Addr × Addr)) : List Addr := r :: N :: L :: flA fa
def kN (n : List Nat) : Key := Sum.inr (tx n)
section
variable {α : Type}
structure WOk (c : Cfg α) : Prop where
  keep : ∀ {M : List Addr} {H H' : Hp} {v : V} {a : α}, c.W M H v a → (∀ b o, b ∉ M → H b = some o → H' b = some o) → c.W M H' v a
  grow : ∀ {M M' : List Addr} {H : Hp} {v : V} {a : α}, c.W M H v a → (∀ b ∈ M', b ∈ M ∨ H b = none) → c.W M' H v a
  nn : ∀ {M : List Addr} {H : Hp} {v : V} {a : α}, c.W M H v a → v ≠ .non
  a0 : c.acc c.O.w0
  aj : ∀ a b x, c.O.jn a b = some x → c.acc x
  p1 : c.ps (.times 1 [])
structure FrAt (K : PySem.W.Frag) (c : Cfg α) (M : List Addr) (H : Hp) (f : Fr α) (p : Addr × Addr) : Prop where
  s : ∃ dx v, H p.1 = some (.ins c.SC dx [("todo", .ref p.2), ("name", nmV f.nm), ("many", .int (f.many : Nat)), ("worth", v)]) ∧ c.W M H v f.wt
  t : ∃ vs, H p.2 = some (.lst vs.reverse) ∧ DpAll K c.H0 vs (encL f.todo)
  g : alR c.ps f.todo ∧ (∀ n, f.nm = some n → (c.bk n).isSome = true) ∧ c.acc f.wt ∧ c.ps (.times f.many [])
def FrsAt (K : PySem.W.Frag) (c : Cfg α) (M : List Addr) (H : Hp) : List (Fr α) → List (Addr × Addr) → Prop
  | [], [] => True
  | f :: fs, p :: ps => FrAt K c M H f p ∧ FrsAt K c M H fs ps
  | _, _ => False
def NdAt (c : Cfg α) (M : List Addr) (H : Hp) (kvs : List (Key × V)) (nd : ND α) : Prop := ∀ n,
  match nd n with
  | none => valV kvs (kN n) = none
  | some none => valV kvs (kN n) = some .non
  | some (some w) => ∃ v, valV kvs (kN n) = some v ∧ c.W M H v w
structure BookAt (K : PySem.W.Frag) (c : Cfg α) : Prop where
  o : c.H0 c.bo = some (.dK c.bkvs)
  len : c.bkvs.length < sizeLine
  it : ∀ n r, c.bk n = some r → ∃ v, valV c.bkvs (kN n) = some v ∧ Dp K c.H0 v (encR r) ∧ alR c.ps r
structure RAt (K : PySem.W.Frag) (c : Cfg α) (r N L : Addr) (fa : List (Addr × Addr)) (H : Hp) (st : Mch α) : Prop where
  hr : ∃ dx, H r = some (.ins c.RC dx [("maker", .ref c.ma), ("book", .ref c.bo), ("named", .ref N), ("begun_rows", .ref L)])
  hN : ∃ kvs, H N = some (.dK kvs) ∧ (kvs.map (·.1)).Nodup ∧ (∀ k ∈ kvs.map (·.1), k ∈ c.bkvs.map (·.1)) ∧ NdAt c (mOf r N L fa) H kvs st.nd
  hL : H L = some (.lst ((fa.map fun p => V.ref p.1).reverse))
  hF : FrsAt K c (mOf r N L fa) H st.fs fa
  nod : (mOf r N L fa).Nodup
  new : ∀ b ∈ mOf r N L fa, c.H0 b = none
  old : Same c.H0 H
variable {K : PySem.W.Frag} {c : Cfg α} {M M' : List Addr} {H H' : Hp}
theorem valV_mem {kvs : List (Key × V)} {k : Key} {v : V} (h : valV kvs k = some v) : k ∈ kvs.map (·.1) := by
  have := valV_any k kvs
  rw [h, Option.isSome_some, List.any_eq_true] at this
  obtain ⟨p, hp, e⟩ := this
  exact List.mem_map.mpr ⟨p, hp, of_decide_eq_true e⟩
theorem valV_not {kvs : List (Key × V)} {k : Key} (h : valV kvs k = none) : k ∉ kvs.map (·.1) := fun hk => by
  have := valV_any k kvs
  rw [h] at this
  obtain ⟨p, hp, e⟩ := List.mem_map.mp hk
  have h2 : (kvs.any fun kv => decide (kv.1 = k)) = true := List.any_eq_true.mpr ⟨p, hp, decide_eq_true e⟩
  rw [this] at h2
  cases h2
theorem putK_keys (kvs : List (Key × V)) (k : Key) (v : V) : (putK kvs k v).map (·.1) = if (valV kvs k).isSome = true then kvs.map (·.1) else kvs.map (·.1) ++ [k] := by
  cases e : valV kvs k with
  | none =>
    rw [putK_new v e, if_neg (by simp), List.map_append]
    rfl
  | some w =>
    rw [if_pos (by rfl)]
    unfold putK
    rw [valV_any, e, if_pos (by rfl), List.map_map]
    apply List.map_congr_left
    intro p _
    show (if p.1 = k then (p.1, v) else p).1 = p.1
    split <;> rfl
theorem kN_inj {n m : List Nat} (h : kN n = kN m) : n = m := tx_inj (Sum.inr.inj h)
theorem frs_len : ∀ {fs : List (Fr α)} {fa : List (Addr × Addr)}, FrsAt K c M H fs fa → fs.length = fa.length
  | [], [], _ => rfl
  | f :: fs, p :: ps, h => by rw [List.length_cons, List.length_cons, frs_len h.2]
  | [], _ :: _, h => h.elim
  | _ :: _, [], h => h.elim
theorem fr_keep {f : Fr α} {p : Addr × Addr} (h : FrAt K c M H f p) (h1 : ∀ o, H p.1 = some o → H' p.1 = some o) (h2 : ∀ o, H p.2 = some o → H' p.2 = some o) (w : ∀ v a, c.W M H v a → c.W M' H' v a) : FrAt K c M' H' f p := by
  obtain ⟨⟨dx, v, a, b⟩, ⟨vs, d, e⟩, g⟩ := h
  exact ⟨⟨dx, v, h1 _ a, w _ _ b⟩, ⟨vs, h2 _ d, e⟩, g⟩
theorem frs_keep : ∀ {fs : List (Fr α)} {fa : List (Addr × Addr)}, FrsAt K c M H fs fa → (∀ b ∈ flA fa, ∀ o, H b = some o → H' b = some o) → (∀ v a, c.W M H v a → c.W M' H' v a) → FrsAt K c M' H' fs fa
  | [], [], _, _, _ => trivial
  | f :: fs, p :: ps, h, k, w => ⟨fr_keep h.1 (k _ (List.mem_cons_self ..)) (k _ (List.mem_cons_of_mem _ (List.mem_cons_self ..))) w, frs_keep h.2 (fun b hb => k b (List.mem_cons_of_mem _ (List.mem_cons_of_mem _ hb))) w⟩
  | [], _ :: _, h, _, _ => h.elim
  | _ :: _, [], h, _, _ => h.elim
theorem nd_keep {kvs : List (Key × V)} {nd : ND α} (h : NdAt c M H kvs nd) (w : ∀ v a, c.W M H v a → c.W M' H' v a) : NdAt c M' H' kvs nd := fun n => by
  have := h n
  split at this
  · exact this
  · exact this
  · obtain ⟨v, a, b⟩ := this
    exact ⟨v, a, w _ _ b⟩
theorem smx_all {x : Addr} (s : SmX x H H') (hx : x ∈ M) : ∀ b o, b ∉ M → H b = some o → H' b = some o := fun b o nb hb => s b o (fun z => nb (z ▸ hx)) hb
variable {r N L : Addr} {fa : List (Addr × Addr)} {st : Mch α}
theorem RAt.ex (R : RAt K c r N L fa H st) : ∀ b ∈ mOf r N L fa, H b ≠ none := by
  intro b hb
  have fr : ∀ {fs : List (Fr α)} {fa : List (Addr × Addr)} {M : List Addr}, FrsAt K c M H fs fa → ∀ b ∈ flA fa, H b ≠ none := by
    intro fs fa M h
    induction fa generalizing fs with
    | nil => intro b hb; cases hb
    | cons p ps ih =>
      cases fs with
      | nil => exact h.elim
      | cons f fs =>
        intro b hb
        obtain ⟨⟨⟨dx, v, a, _⟩, ⟨vs, d, e⟩, _⟩, h2⟩ := h
        rcases List.mem_cons.mp hb with rfl | hb
        · rw [a]; nofun
        · rcases List.mem_cons.mp hb with rfl | hb
          · rw [d]; nofun
          · exact ih h2 b hb
  rcases List.mem_cons.mp hb with rfl | hb
  · obtain ⟨dx, h⟩ := R.hr
    rw [h]; nofun
  · rcases List.mem_cons.mp hb with rfl | hb
    · obtain ⟨kvs, h, _⟩ := R.hN
      rw [h]; nofun
    · rcases List.mem_cons.mp hb with rfl | hb
      · rw [R.hL]; nofun
      · exact fr R.hF b hb
theorem RAt.same (w : WOk c) (R : RAt K c r N L fa H st) (s : Same H H') : RAt K c r N L fa H' st := by
  obtain ⟨⟨dx, a⟩, ⟨kvs, b1, b2, b3, b4⟩, hL, hF, nod, new, old⟩ := R
  have k : ∀ v a, c.W (mOf r N L fa) H v a → c.W (mOf r N L fa) H' v a := fun v a h => w.keep h fun b o _ => s b o
  exact ⟨⟨dx, s _ _ a⟩, ⟨kvs, s _ _ b1, b2, b3, nd_keep b4 k⟩, s _ _ hL, frs_keep hF (fun b _ o => s b o) k, nod, new, sm_trans old s⟩
theorem nd_ne {a b : Addr} {l : List Addr} (h : (a :: l).Nodup) (hb : b ∈ l) : a ≠ b := fun z => (List.nodup_cons.mp h).1 (z ▸ hb)
theorem nd_tl {a : Addr} {l : List Addr} (h : (a :: l).Nodup) : l.Nodup := (List.nodup_cons.mp h).2
theorem old_smx {x : Addr} {H0 : Hp} (old : Same H0 H) (nx : H0 x = none) (s : SmX x H H') : Same H0 H' := fun b o hb => s b o (ne_of_none hb nx) (old b o hb)
/-- the innermost worth is another -/
theorem RAt.wt (w : WOk c) {f : Fr α} {fs : List (Fr α)} {nd : ND α} {p : Addr × Addr} {dx : Addr} {v : V} {b : α} (R : RAt K c r N L (p :: fa) H ⟨f :: fs, nd⟩) (hv : c.W (mOf r N L (p :: fa)) H v b) (ha : c.acc b) :
    RAt K c r N L (p :: fa) (upd H p.1 (.ins c.SC dx [("todo", .ref p.2), ("name", nmV f.nm), ("many", .int (f.many : Nat)), ("worth", v)])) ⟨⟨f.todo, f.nm, f.many, b⟩ :: fs, nd⟩ := by
  obtain ⟨⟨dr, a⟩, ⟨kvs, b1, b2, b3, b4⟩, hL, ⟨⟨⟨d2, v2, s1, s2⟩, ⟨vs, t1, t2⟩, g⟩, hF⟩, nod, new, old⟩ := R
  have m1 : p.1 ∈ mOf r N L (p :: fa) := by simp [mOf, flA]
  generalize eo : HO.ins c.SC dx [("todo", .ref p.2), ("name", nmV f.nm), ("many", .int (f.many : Nat)), ("worth", v)] = o
  have s : SmX p.1 H (upd H p.1 o) := fun b o' nb hb => by rw [upd_ne nb]; exact hb
  have k : ∀ v a, c.W (mOf r N L (p :: fa)) H v a → c.W (mOf r N L (p :: fa)) (upd H p.1 o) v a := fun v a h => w.keep h (smx_all s m1)
  have n0 := nod
  unfold mOf flA at n0
  have n1 := nd_tl n0
  have n2 := nd_tl n1
  have n3 := nd_tl n2
  have e1 : r ≠ p.1 := nd_ne n0 (by simp)
  have e2 : N ≠ p.1 := nd_ne n1 (by simp)
  have e3 : L ≠ p.1 := nd_ne n2 (by simp)
  have e4 : p.1 ≠ p.2 := nd_ne n3 (by simp)
  refine ⟨⟨dr, s _ _ e1 a⟩, ⟨kvs, s _ _ e2 b1, b2, b3, nd_keep b4 k⟩, s _ _ e3 hL, ⟨⟨⟨dx, v, by rw [upd_same, ← eo], k _ _ hv⟩, ⟨vs, s _ _ (Ne.symm e4) t1, t2⟩, g.1, g.2.1, ha, g.2.2.2⟩, frs_keep hF (fun b hb o => s b o (fun z => ?_)) k⟩, nod, new, old_smx old (new _ m1) s⟩
  exact nd_ne n3 (List.mem_cons_of_mem _ hb) z.symm
/-- the next step is taken from its list -/
theorem RAt.popT (w : WOk c) {x : Stp} {l : List Stp} {f : Fr α} {fs : List (Fr α)} {nd : ND α} {p : Addr × Addr} (R : RAt K c r N L (p :: fa) H ⟨f :: fs, nd⟩) (e : f.todo = x :: l) :
    ∃ (v : V) (vs : List V), H p.2 = some (.lst (vs.reverse ++ [v])) ∧ Dp K c.H0 v (encS x) ∧ alS c.ps x ∧ RAt K c r N L (p :: fa) (upd H p.2 (.lst vs.reverse)) ⟨⟨l, f.nm, f.many, f.wt⟩ :: fs, nd⟩ := by
  obtain ⟨⟨dr, a⟩, ⟨kvs, b1, b2, b3, b4⟩, hL, ⟨⟨⟨d2, v2, s1, s2⟩, ⟨vs, t1, t2⟩, g⟩, hF⟩, nod, new, old⟩ := R
  have m1 : p.2 ∈ mOf r N L (p :: fa) := by simp [mOf, flA]
  rw [e, encL] at t2
  rw [e, alR] at g
  cases t2 with
  | cons hd tl =>
    rename_i v ws
    refine ⟨v, ws, by rw [t1, List.reverse_cons], hd, g.1.1, ?_⟩
    generalize eo : HO.lst ws.reverse = o
    have s : SmX p.2 H (upd H p.2 o) := fun b o' nb hb => by rw [upd_ne nb]; exact hb
    have k : ∀ v a, c.W (mOf r N L (p :: fa)) H v a → c.W (mOf r N L (p :: fa)) (upd H p.2 o) v a := fun v a h => w.keep h (smx_all s m1)
    have n0 := nod
    unfold mOf flA at n0
    have n1 := nd_tl n0
    have n2 := nd_tl n1
    have n3 := nd_tl n2
    have n4 := nd_tl n3
    have e1 : r ≠ p.2 := nd_ne n0 (by simp)
    have e2 : N ≠ p.2 := nd_ne n1 (by simp)
    have e3 : L ≠ p.2 := nd_ne n2 (by simp)
    have e4 : p.1 ≠ p.2 := nd_ne n3 (by simp)
    refine ⟨⟨dr, s _ _ e1 a⟩, ⟨kvs, s _ _ e2 b1, b2, b3, nd_keep b4 k⟩, s _ _ e3 hL, ⟨⟨⟨d2, v2, s _ _ e4 s1, k _ _ s2⟩, ⟨ws, by rw [upd_same, ← eo], tl⟩, g.1.2, g.2⟩, frs_keep hF (fun b hb o => s b o (fun z => ?_)) k⟩, nod, new, old_smx old (new _ m1) s⟩
    exact nd_ne n4 hb z.symm
/-- the innermost row is ended -/
theorem RAt.popF (w : WOk c) {f : Fr α} {fs : List (Fr α)} {nd : ND α} {p : Addr × Addr} (R : RAt K c r N L (p :: fa) H ⟨f :: fs, nd⟩) :
    ∃ dx v, (upd H L (.lst (fa.map fun p => V.ref p.1).reverse)) p.1 = some (.ins c.SC dx [("todo", .ref p.2), ("name", nmV f.nm), ("many", .int (f.many : Nat)), ("worth", v)]) ∧ c.W (mOf r N L fa) (upd H L (.lst (fa.map fun p => V.ref p.1).reverse)) v f.wt ∧
      ((∀ n, f.nm = some n → (c.bk n).isSome = true) ∧ c.acc f.wt ∧ c.ps (.times f.many [])) ∧ RAt K c r N L fa (upd H L (.lst (fa.map fun p => V.ref p.1).reverse)) ⟨fs, nd⟩ := by
  obtain ⟨⟨dr, a⟩, ⟨kvs, b1, b2, b3, b4⟩, hL, ⟨⟨⟨d2, v2, s1, s2⟩, ⟨vs, t1, t2⟩, g⟩, hF⟩, nod, new, old⟩ := R
  have m1 : L ∈ mOf r N L (p :: fa) := by simp [mOf]
  generalize eo : HO.lst (fa.map fun p => V.ref p.1).reverse = o
  have s : SmX L H (upd H L o) := fun b o' nb hb => by rw [upd_ne nb]; exact hb
  have sub : ∀ b ∈ mOf r N L fa, b ∈ mOf r N L (p :: fa) := fun b hb => by
    unfold mOf at hb ⊢
    rw [flA]
    simp only [List.mem_cons] at hb ⊢
    rcases hb with h | h | h | h
    · exact .inl h
    · exact .inr (.inl h)
    · exact .inr (.inr (.inl h))
    · exact .inr (.inr (.inr (.inr (.inr h))))
  have k : ∀ v a, c.W (mOf r N L (p :: fa)) H v a → c.W (mOf r N L fa) (upd H L o) v a := fun v a h => w.grow (w.keep h (smx_all s m1)) fun b hb => .inl (sub b hb)
  have n0 := nod
  unfold mOf flA at n0
  have n1 := nd_tl n0
  have n2 := nd_tl n1
  have n3 := nd_tl n2
  have n4 := nd_tl n3
  have e1 : r ≠ L := nd_ne n0 (by simp)
  have e2 : N ≠ L := nd_ne n1 (by simp)
  have e3 : L ≠ p.1 := nd_ne n2 (by simp)
  refine ⟨d2, v2, s _ _ (Ne.symm e3) s1, k _ _ s2, g.2, ⟨dr, s _ _ e1 a⟩, ⟨kvs, s _ _ e2 b1, b2, b3, nd_keep b4 k⟩, by rw [upd_same, ← eo], frs_keep hF (fun b hb o => s b o (fun z => ?_)) k, ?_, fun b hb => new b (sub b hb), old_smx old (new _ m1) s⟩
  · exact nd_ne n2 (List.mem_cons_of_mem _ (List.mem_cons_of_mem _ hb)) z.symm
  · unfold mOf
    rw [List.nodup_cons, List.nodup_cons, List.nodup_cons] at n0 ⊢
    simp only [List.mem_cons, not_or] at n0 ⊢
    exact ⟨⟨n0.1.1, n0.1.2.1, n0.1.2.2.2.2⟩, ⟨n0.2.1.1, n0.2.1.2.2.2⟩, n0.2.2.1.2.2, nd_tl n4⟩
/-- a row is begun -/
theorem RAt.push (w : WOk c) {f : Fr α} {x T dx : Addr} {v : V} {vs : List V} {H1 : Hp} (R : RAt K c r N L fa H st) (s : Same H H1) (nx : H x = none) (nT : H T = none) (ne : x ≠ T)
    (hx : H1 x = some (.ins c.SC dx [("todo", .ref T), ("name", nmV f.nm), ("many", .int (f.many : Nat)), ("worth", v)])) (hT : H1 T = some (.lst vs.reverse)) (hd : DpAll K c.H0 vs (encL f.todo)) (g : alR c.ps f.todo ∧ (∀ n, f.nm = some n → (c.bk n).isSome = true) ∧ c.acc f.wt ∧ c.ps (.times f.many []))
    (hv : c.W (mOf r N L ((x, T) :: fa)) H1 v f.wt) :
    RAt K c r N L ((x, T) :: fa) (upd H1 L (.lst ((fa.map fun p => V.ref p.1).reverse ++ [.ref x]))) ⟨f :: st.fs, st.nd⟩ := by
  have ex := R.ex
  obtain ⟨⟨dr, a⟩, ⟨kvs, b1, b2, b3, b4⟩, hL, hF, nod, new, old⟩ := R
  generalize eo : HO.lst ((fa.map fun p => V.ref p.1).reverse ++ [V.ref x]) = o
  have m1 : L ∈ mOf r N L ((x, T) :: fa) := by simp [mOf]
  have m2 : L ∈ mOf r N L fa := by simp [mOf]
  have s2 : SmX L H1 (upd H1 L o) := fun b o' nb hb => by rw [upd_ne nb]; exact hb
  have k2 : ∀ v a, c.W (mOf r N L ((x, T) :: fa)) H1 v a → c.W (mOf r N L ((x, T) :: fa)) (upd H1 L o) v a := fun v a h => w.keep h (smx_all s2 m1)
  have k : ∀ v a, c.W (mOf r N L fa) H v a → c.W (mOf r N L ((x, T) :: fa)) (upd H1 L o) v a := fun v a h => k2 _ _ (w.keep (w.grow h fun b hb => by
    unfold mOf at hb ⊢
    rw [flA] at hb
    simp only [List.mem_cons] at hb ⊢
    rcases hb with h | h | h | h | h | h
    · exact .inl (.inl h)
    · exact .inl (.inr (.inl h))
    · exact .inl (.inr (.inr (.inl h)))
    · exact .inr (h ▸ nx)
    · exact .inr (h ▸ nT)
    · exact .inl (.inr (.inr (.inr h)))) fun b o _ => s b o)
  have xm : x ∉ mOf r N L fa := fun h => ex x h nx
  have Tm : T ∉ mOf r N L fa := fun h => ex T h nT
  have n0 := nod
  unfold mOf at n0 xm Tm
  simp only [List.mem_cons, not_or] at xm Tm
  have n1 := nd_tl n0
  have n2 := nd_tl n1
  refine ⟨⟨dr, s2 _ _ (nd_ne n0 (by simp)) (s _ _ a)⟩, ⟨kvs, s2 _ _ (nd_ne n1 (by simp)) (s _ _ b1), b2, b3, nd_keep b4 k⟩, ?_, ⟨⟨⟨dx, v, s2 _ _ xm.2.2.1 hx, k2 _ _ hv⟩, ⟨vs, s2 _ _ Tm.2.2.1 hT, hd⟩, g⟩, frs_keep hF (fun b hb o h => s2 b o (fun z => ?_) (s b o h)) k⟩, ?_, fun b hb => ?_, old_smx (sm_trans old s) (new _ m2) s2⟩
  · rw [upd_same, ← eo, List.map_cons, List.reverse_cons]
  · exact nd_ne n2 hb z.symm
  · unfold mOf
    rw [flA]
    rw [List.nodup_cons, List.nodup_cons, List.nodup_cons] at n0
    rw [List.nodup_cons, List.nodup_cons, List.nodup_cons, List.nodup_cons, List.nodup_cons]
    simp only [List.mem_cons, not_or] at n0 ⊢
    refine ⟨⟨n0.1.1, n0.1.2.1, Ne.symm xm.1, Ne.symm Tm.1, n0.1.2.2⟩, ⟨n0.2.1.1, Ne.symm xm.2.1, Ne.symm Tm.2.1, n0.2.1.2⟩, ⟨Ne.symm xm.2.2.1, Ne.symm Tm.2.2.1, n0.2.2.1⟩, ⟨ne, xm.2.2.2⟩, Tm.2.2.2, n0.2.2.2⟩
  · unfold mOf at hb
    rw [flA] at hb
    simp only [List.mem_cons] at hb
    have none0 : ∀ b, H b = none → c.H0 b = none := fun b h => L2.Same.free old h
    rcases hb with h | h | h | h | h | h
    · exact new b (by unfold mOf; simp [h])
    · exact new b (by unfold mOf; simp [h])
    · exact new b (by unfold mOf; simp [h])
    · exact none0 b (h ▸ nx)
    · exact none0 b (h ▸ nT)
    · exact new b (by unfold mOf; simp [h])
/-- a name is told -/
theorem RAt.put (w : WOk c) (B : BookAt K c) {fs : List (Fr α)} {nd : ND α} {n : List Nat} {y : V} {o : Option α} (R : RAt K c r N L fa H ⟨fs, nd⟩) (hb : (c.bk n).isSome = true)
    (hy : match o with | none => y = .non | some a => c.W (mOf r N L fa) H y a) : ∃ H', DPut H N (.str (tx n)) y H' ∧ SmX N H H' ∧ RAt K c r N L fa H' ⟨fs, ndP nd n o⟩ := by
  obtain ⟨⟨dr, a⟩, ⟨kvs, b1, b2, b3, b4⟩, hL, hF, nod, new, old⟩ := R
  have hb : kN n ∈ c.bkvs.map (·.1) := by
    obtain ⟨r', h⟩ := Option.isSome_iff_exists.mp hb
    obtain ⟨v, h, _⟩ := B.it n r' h
    exact valV_mem h
  have l := b2.length_le_of_subset b3
  rw [List.length_map, List.length_map] at l
  have bl := B.len
  refine ⟨upd H N (.dK (putK kvs (kN n) y)), DPut.k b1 (k := kN n) (by omega), fun b o' nb h => by rw [upd_ne nb]; exact h, ?_⟩
  have m1 : N ∈ mOf r N L fa := by simp [mOf]
  generalize eo : HO.dK (putK kvs (kN n) y) = ob
  have s : SmX N H (upd H N ob) := fun b o' nb hb => by rw [upd_ne nb]; exact hb
  have k : ∀ v a, c.W (mOf r N L fa) H v a → c.W (mOf r N L fa) (upd H N ob) v a := fun v a h => w.keep h (smx_all s m1)
  have n0 := nod
  unfold mOf at n0
  have n1 := nd_tl n0
  refine ⟨⟨dr, s _ _ (nd_ne n0 (by simp)) a⟩, ⟨putK kvs (kN n) y, by rw [upd_same, ← eo], ?_, ?_, ?_⟩, s _ _ (Ne.symm (nd_ne n1 (by simp))) hL, frs_keep hF (fun b hb o => s b o (fun z => ?_)) k, nod, new, old_smx old (new _ m1) s⟩
  · rw [putK_keys]
    cases e : valV kvs (kN n) with
    | none =>
      rw [if_neg (by simp)]
      have := valV_not e
      rw [List.nodup_append]
      exact ⟨b2, by simp, fun a ha b hb => by rw [List.mem_singleton.mp hb]; exact fun z => this (z ▸ ha)⟩
    | some _ => rw [if_pos (by rfl)]; exact b2
  · rw [putK_keys]
    intro x hx
    cases e : valV kvs (kN n) with
    | none =>
      rw [e, if_neg (by simp), List.mem_append] at hx
      rcases hx with hx | hx
      · exact b3 x hx
      · rw [List.mem_singleton.mp hx]; exact hb
    | some _ =>
      rw [e, if_pos (by rfl)] at hx
      exact b3 x hx
  · intro m
    show match ndP nd n o m with | none => _ | some none => _ | some (some w) => _
    unfold ndP
    rw [valV_put]
    by_cases z : m = n
    · subst z
      rw [if_pos rfl, if_pos rfl]
      cases o with
      | none => exact congrArg some hy
      | some a => exact ⟨y, rfl, k _ _ hy⟩
    · rw [if_neg z, if_neg (fun h => z (kN_inj h))]
      exact nd_keep b4 k m
  · exact nd_ne n1 (List.mem_cons_of_mem _ hb) z.symm
end
end NC
namespace NC
open PySem PySem.Spec PyProof.Rows L2
/-- a statement that is never come to -/
theorem ps_dead {X : Cx} {st : Stmt} : PS X st (fun _ _ _ => False) := ⟨fun _ _ _ _ _ _ h => h.elim⟩
end NC
namespace NC
open PySem PySem.Spec PyProof.Rows L2 HT
section
variable {prog : Program} {w : World} {A : Around} {E : Value → Shared → Prop} {s : Shared}
theorem adjust_rev (n : Nat) : Builtin.Slice.sliceAdjust none none (-1) (n : Int) = ((n : Int) - 1, -1) := rfl
theorem places_rev (n : Nat) : Builtin.Slice.slicePlaces ((n : Int) - 1) (-1) (-1) = n := by
  unfold Builtin.Slice.slicePlaces
  have h1 : ¬ ((-1 : Int) > 0) := by omega
  simp only [h1, if_false]
  rw [show (- -1 : Int) = 1 by decide, Int.ediv_one]
  split <;> omega
theorem sliceApplied_rev {sl : Addr} {vl vu vs : Value} {n : Nat} {Q : Int × Int × Nat → Shared → Prop} (hs : s.heap.IsSliceOf sl vl vu vs) (pl : IsPart vl none) (pu : IsPart vu none) (ps : IsPart vs (some (-1)))
    (h : Q ((n : Int) - 1, -1, n) s) : wpAny (model prog w) A (Builtin.Slice.sliceApplied (.ref sl) (pure (n : Int))) Q E s := by
  obtain ⟨os, hos, hcs, hds⟩ := id hs
  unfold Builtin.Slice.sliceApplied Builtin.Slice.sliceFields
  refine wpAny_bind (wpAny_bind (wpAny_field hos hds (x := vl) rfl (wpAny_bind (wpAny_field hos hds (x := vu) rfl (wpAny_bind (wpAny_field hos hds (x := vs) rfl (wpAny_pure ?_)))))))
  refine wpAny_bind (slicePart_ ps ?_)
  show wpAny _ _ (if ((-1 : Int) == 0) = true then _ else _) _ _ s
  rw [if_neg (by decide)]
  refine wpAny_bind (slicePart_ pl (wpAny_bind (slicePart_ pu (wpAny_bind (wpAny_pure ?_)))))
  show wpAny _ _ (match Builtin.Slice.sliceAdjust none none (-1) (n : Int) with | (lo, hi) => pure (lo, (-1 : Int), Builtin.Slice.slicePlaces lo hi (-1))) _ _ s
  rw [adjust_rev n]
  show wpAny _ _ (pure ((n : Int) - 1, (-1 : Int), Builtin.Slice.slicePlaces ((n : Int) - 1) (-1) (-1))) _ _ s
  rw [places_rev]
  exact wpAny_pure h
theorem pick_rev (xs : Array Value) : ((List.range xs.size).filterMap fun (m : Nat) => xs[((xs.size : Int) - 1 + (m : Int) * -1).toNat]?).toArray = xs.toList.reverse.toArray := by
  have e : ((List.range xs.size).filterMap fun (m : Nat) => xs[((xs.size : Int) - 1 + (m : Int) * -1).toNat]?) = ((List.range xs.size).map fun k => xs.size - 1 - k).filterMap (xs[·]?) := by
    rw [List.filterMap_map]
    have e2 : ∀ l : List Nat, (l.filterMap fun (m : Nat) => xs[((xs.size : Int) - 1 + (m : Int) * -1).toNat]?) = l.filterMap ((fun x => xs[x]?) ∘ fun k => xs.size - 1 - k) := fun l => by
      congr 1
      funext m
      show xs[((xs.size : Int) - 1 + (m : Int) * -1).toNat]? = xs[xs.size - 1 - m]?
      congr 1
      omega
    exact e2 _
  rw [e, PySem.W.krv_range, List.filterMap_reverse, PySem.W.krv_all]
theorem getItem_tuple_rev {t sl : Addr} {items : Array Value} {vl vu vs : Value} {Q : Value → Shared → Prop} (ht : IsTup s.heap t items) (hs : s.heap.IsSliceOf sl vl vu vs) (pl : IsPart vl none) (pu : IsPart vu none) (ps : IsPart vs (some (-1)))
    (h : Q (.ref s.heap.objs.size) { s with heap := s.heap.push { cls := .type "tuple", data := .seq items.toList.reverse.toArray } })
    (hsz : items.size ≤ sizeLine) : wpAny (model prog w) A (getItem (.ref t) (.ref sl)) Q E s := by
  have htake : sizeOk (.seq items.toList.reverse.toArray) := by
    show items.toList.reverse.toArray.size ≤ sizeLine
    rw [List.size_toArray, List.length_reverse, Array.length_toList]
    exact hsz
  obtain ⟨os, hos, hcs, hds⟩ := id hs
  have hTs : s.TypeIs (.ref sl) "slice" := ⟨os, hos, hcs⟩
  unfold getItem
  try with_reducible refine wpAny_holding ?_
  first | refine wpAny_bind (wpAny_pure ?_) | skip
  refine wpAny_bind (wpAny_sequenceKey ht.typeIs (by decide) ?_)
  refine wpAny_bind (wpAny_callSpecial?_slot (name := Str.ofString "__getitem__") ht.typeIs PyProof.Rows.slot_tuple_getitem
    (wpAny_call_entry PyProof.Rows.slot_tuple_getitem ht.typeIs entry_tuple_getitem ?_ (args_tuple_getitem _ _)))
  show wpAny _ _ (Builtin.Tuple.tupleItemsOf (.ref t) >>= _) _ _ s
  refine wpAny_bind (tupleItemsOf_ ht ?_)
  refine wpAny_bind (wpAny_typeOf hTs ?_)
  rw [if_pos (by decide)]
  refine wpAny_bind (sliceApplied_rev hs pl pu ps ?_)
  have hno : ¬ ((((items.size : Int) - 1) == 0 && (-1 : Int) == 1 && items.size == items.size) = true) := by
    intro q
    rw [Bool.and_eq_true, Bool.and_eq_true] at q
    exact absurd q.1.2 (by decide)
  show wpAny _ _ (if (((items.size : Int) - 1) == 0 && (-1 : Int) == 1 && items.size == items.size) = true then _ else _) _ _ s
  rw [if_neg hno, pick_rev]
  first
    | exact wpAny_bind (m := Builtin.Tuple.tupleExact _) (wpAny_newObj_type (wpAny_pure ⟨_, rfl, wpAny_pure h⟩) htake)
    | exact wpAny_bind (m := Builtin.Tuple.tupleExact _) (wpAny_newObj_type (wpAny_bind (wpAny_pure (wpAny_pure ⟨_, rfl, wpAny_pure h⟩))) htake)
    | exact wpAny_bind (wpAny_bind (m := Builtin.Tuple.tupleExact _) (wpAny_newObj_type (wpAny_pure (wpAny_pure ⟨_, rfl, wpAny_pure h⟩)) htake))
    | exact wpAny_bind (wpAny_bind (m := Builtin.Tuple.tupleExact _) (wpAny_newObj_type (wpAny_pure ⟨_, rfl, wpAny_pure h⟩) htake))
end
def tRevT (K : PySem.W.Frag) (te : TE) : TE := fun σ H Q => te σ H fun x H1 => ∃ a xs, x = .ref a ∧ SqT K H1 a xs ∧ ∀ p, H1 p = none → Q (.ref p) (upd H1 p (.tup xs.reverse))
theorem pe_revT {X : Cx} {e : Expr} {te : TE} {k : Nat} {p1 p2 p3 pos : Pos} (he : PE X e te) : PE X (.Subscript e (.Slice none none (some (.UnaryOp .USub (.Constant (.int 1) k p1) p2)) p3) pos) (tRevT X.K te) := by
  refine ⟨fun pins s σ H Q I h => ?_⟩
  refine Subscript_ (thn (he.run pins s σ H _ I h) fun v s1 ⟨x, H1, I1, r1, q1⟩ => ?_)
  obtain ⟨a, xs, ex, hx, q⟩ := q1
  subst ex
  cases r1
  have hst : PO X (some (.UnaryOp .USub (.Constant (.int 1) k p1) p2)) (tPart (tUn (rU fun i => .int (-i)) (tC (.int 1)))) := po_some (pe_un un_neg pe_int)
  refine wpAny_Slice (thn (po_none.run pins s1 σ H1 (fun o H2 => o = none ∧ H2 = H1) I1 ⟨rfl, rfl⟩) fun vl s2 ⟨l, H2, I2, pl, el, e2⟩ => ?_)
  subst el e2
  refine thn (po_none.run pins s2 σ H2 (fun o H3 => o = none ∧ H3 = H2) I2 ⟨rfl, rfl⟩) fun vu s3 ⟨u, H3, I3, pu, eu, e3⟩ => ?_
  subst eu e3
  refine thn (hst.run pins s3 σ H3 (fun o H4 => o = some (-1) ∧ H4 = H3) I3 ⟨1, rfl, -1, rfl, rfl, rfl⟩) fun vs s4 ⟨o, H4, I4, ps, eo, e4⟩ => ?_
  subst eo e4
  have I5 : Inv X pins σ H4 { s4 with heap := s4.heap.push { cls := .type "slice", data := .fields #[vl, vu, vs] } } := I4.kept (t' := s4.toks) fun b ob q => Heap.get?_push_of_some _ q
  obtain ⟨its, r, ht, hz⟩ := I5.tuple hx
  have hlen := r.length
  show wpAny (model X.prog X.w) X.A (subscriptTail e (.Slice none none (some (.UnaryOp .USub (.Constant (.int 1) k p1) p2)) p3) (.ref a) (.ref s4.heap.objs.size)) (EP X pins σ Q) X.xe { s4 with heap := s4.heap.push { cls := .type "slice", data := .fields #[vl, vu, vs] } }
  refine tail_any (ops := [.ref a, .ref s4.heap.objs.size]) ht.typeIs (PyProof.Rows.slot_tuple_getitem.lookup) ?_ (by with_unfolding_all rfl)
  refine getItem_tuple_rev ht (Heap.IsSliceOf.new _ vl vu vs) pl pu ps ?_ (by rw [List.size_toArray]; omega)
  refine ⟨.ref _, _, I5.laid (t' := s4.toks) (o := .tup xs.reverse) (fun b ob q => Heap.get?_push_of_some _ q) (Nat.le_refl _) ?_, rfl, q _ (I5.hok.fresh (Nat.le_refl _))⟩
  exact ⟨by rw [List.length_reverse]; exact hz, _, r.reverse, IsTup.new _ _⟩
end NC
namespace NC
open PySem PySem.Spec PyProof.Rows L2
abbrev sRk_Si : Stmt := inClass (topS 30) 0
theorem scRk_Si : FnScope ["self", "row", "name", "many", "worth"] ["self", "row", "name", "many", "worth"] (defScope sRk_Si) := ⟨rfl, rfl, rfl, by decide +kernel, rfl, by decide +kernel, by decide +kernel⟩
abbrev sRk_Ri : Stmt := inClass (topS 31) 0
theorem scRk_Ri : FnScope ["self", "maker", "book"] ["self", "maker", "book"] (defScope sRk_Ri) := ⟨rfl, rfl, rfl, by decide +kernel, rfl, by decide +kernel, by decide +kernel⟩
abbrev sRk_be : Stmt := inClass (topS 31) 1
theorem scRk_be : FnScope ["self", "row", "name", "many"] ["self", "row", "name", "many"] (defScope sRk_be) := ⟨rfl, rfl, rfl, by decide +kernel, rfl, by decide +kernel, by decide +kernel⟩
abbrev sRk_ad : Stmt := inClass (topS 31) 2
theorem scRk_ad : FnScope ["self", "worth", "last"] ["self", "worth"] (defScope sRk_ad) := ⟨rfl, rfl, rfl, by decide +kernel, rfl, by decide +kernel, by decide +kernel⟩
abbrev sRk_do : Stmt := inClass (topS 31) 3
theorem scRk_do : FnScope ["self", "name"] ["self", "name"] (defScope sRk_do) := ⟨rfl, rfl, rfl, by decide +kernel, rfl, by decide +kernel, by decide +kernel⟩
abbrev sRk_st : Stmt := inClass (topS 31) 4
theorem scRk_st : FnScope ["self", "step"] ["self", "step"] (defScope sRk_st) := ⟨rfl, rfl, rfl, by decide +kernel, rfl, by decide +kernel, by decide +kernel⟩
abbrev sRk_fi : Stmt := inClass (topS 31) 5
theorem scRk_fi : FnScope ["self", "ended", "worth"] ["self"] (defScope sRk_fi) := ⟨rfl, rfl, rfl, by decide +kernel, rfl, by decide +kernel, by decide +kernel⟩
abbrev sRk_wo : Stmt := inClass (topS 31) 6
theorem scRk_wo : FnScope ["self", "row", "last"] ["self", "row"] (defScope sRk_wo) := ⟨rfl, rfl, rfl, by decide +kernel, rfl, by decide +kernel, by decide +kernel⟩
theorem pt_imp {X : Cx} {e : Expr} {t t' : TT} (h : PT X e t) (i : ∀ (σ : L2.St) (H : Hp) (Q : Bool → Hp → Prop), t' σ H Q → t σ H Q) : PT X e t' := ⟨fun pins s σ H Q I q => h.run pins s σ H Q I (i σ H Q q)⟩
def tCnd {α : Type} (K : PySem.W.Frag) (c : Cfg α) (r N L : Addr) : TT := fun σ H Q => ∃ (fa : List (Addr × Addr)) (st : Mch α) (y1 y2 : Option V), σ = [some (.ref r), y1, y2] ∧ RAt K c r N L fa H st ∧ st.fs ≠ [] ∧ Q (isEnd st).isNone H
theorem get_last {β : Type} (xs : List β) (v : β) : (xs ++ [v])[(xs ++ [v]).length - 1]? = some v := by
  rw [List.length_append, List.length_singleton, Nat.add_sub_cancel, List.getElem?_append_right (Nat.le_refl _), Nat.sub_self]
  rfl
/-- the classes of rows that are begun -/
structure RkC (K : PySem.W.Frag) (mg : Str → Option Value) (SC RC : Addr) (g_Si g_Ri g_be g_ad g_do g_st g_fi g_wo : Addr) (e_Si e_Ri e_be e_ad e_do e_st e_fi e_wo : FuncData) : Prop where
  gS : mg "Stretch" = some (.ref SC)
  clS : Cls K SC
  mkS : Mk K SC g_Si
  gR : mg "Reckoning" = some (.ref RC)
  clR : Cls K RC
  mkR : Mk K RC g_Ri
  st : NoAttr K SC "todo"
  sn : NoAttr K SC "name"
  sm : NoAttr K SC "many"
  sw : NoAttr K SC "worth"
  rm : NoAttr K RC "maker"
  rb : NoAttr K RC "book"
  rn : NoAttr K RC "named"
  rr : NoAttr K RC "begun_rows"
  FSi : Fun K "__init__" "Stretch.__init__" sRk_Si g_Si e_Si
  bSi : Binds K e_Si ["self", "row", "name", "many", "worth"] []
  FRi : Fun K "__init__" "Reckoning.__init__" sRk_Ri g_Ri e_Ri
  bRi : Binds K e_Ri ["self", "maker", "book"] []
  Fbe : Fun K "begin" "Reckoning.begin" sRk_be g_be e_be
  bbe : Binds K e_be ["self", "row", "name", "many"] []
  mbe : Meth K RC "begin" g_be
  Fad : Fun K "add_worth" "Reckoning.add_worth" sRk_ad g_ad e_ad
  bad : Binds K e_ad ["self", "worth"] []
  mad : Meth K RC "add_worth" g_ad
  Fdo : Fun K "do_name" "Reckoning.do_name" sRk_do g_do e_do
  bdo : Binds K e_do ["self", "name"] []
  mdo : Meth K RC "do_name" g_do
  Fst : Fun K "do_step" "Reckoning.do_step" sRk_st g_st e_st
  bst : Binds K e_st ["self", "step"] []
  mst : Meth K RC "do_step" g_st
  Ffi : Fun K "finish" "Reckoning.finish" sRk_fi g_fi e_fi
  bfi : Binds K e_fi ["self"] []
  mfi : Meth K RC "finish" g_fi
  Fwo : Fun K "worth_of" "Reckoning.worth_of" sRk_wo g_wo e_wo
  bwo : Binds K e_wo ["self", "row"] []
  mwo : Meth K RC "worth_of" g_wo
  zlist : mg "list" = none
  zlen : mg "len" = none
section
variable {P : Program} {w : World} {K : PySem.W.Frag} {mg : Str → Option Value} {base : Heap} {α : Type} {SC RC : Addr} {g_Si g_Ri g_be g_ad g_do g_st g_fi g_wo : Addr} {e_Si e_Ri e_be e_ad e_do e_st e_fi e_wo : FuncData}
def spNil (c : Cfg α) : Sp := fun vs H Q _ => vs = [.ref c.ma] ∧ Same c.H0 H ∧ ∀ H' v, Same H H' → (∀ M : List Addr, (∀ b ∈ M, H b ≠ none) → c.W M H' v c.O.w0) → Q v H'
def spOfS (K : PySem.W.Frag) (c : Cfg α) : Sp := fun vs H Q _ => ∃ v s, vs = [.ref c.ma, v] ∧ Same c.H0 H ∧ Dp K c.H0 v (encS s) ∧ ((∃ t, s = .call t) ∨ ∃ t, s = .turn t) ∧ c.ps s ∧ ∀ H' v', Same H H' → (∀ M : List Addr, (∀ b ∈ M, H b ≠ none) → c.W M H' v' (c.O.oS s)) → Q v' H'
def spJn (c : Cfg α) : Sp := fun vs H Q E => ∃ va vb a b M, vs = [.ref c.ma, va, vb] ∧ Same c.H0 H ∧ (∀ b ∈ M, H b ≠ none) ∧ c.W M H va a ∧ c.W M H vb b ∧
  match c.O.jn a b with
  | none => c.ER E
  | some x => ∀ H' v, Same H H' → c.W M H' v x → Q v H'
def spRp (c : Cfg α) : Sp := fun vs H Q _ => ∃ va a n M, vs = [.ref c.ma, va, .int (n : Nat)] ∧ Same c.H0 H ∧ (∀ b ∈ M, H b ≠ none) ∧ c.W M H va a ∧ c.acc a ∧ c.ps (.times n []) ∧ ∀ H' v, Same H H' → c.W M H' v (c.O.rp a n) → Q v H'
structure MkC (P : Program) (w : World) (K : PySem.W.Frag) (mg : Str → Option Value) (base : Heap) (k : Nat) (c : Cfg α) : Prop where
  ex : ∃ MC dx fs, c.H0 c.ma = some (.ins MC dx fs) ∧ Cls K MC ∧ (fs.lookup ("nothing" : Str) = none ∧ fs.lookup ("of_step" : Str) = none ∧ fs.lookup ("joined" : Str) = none ∧ fs.lookup ("repeated" : Str) = none) ∧
    (∃ f d, Meth K MC "nothing" f ∧ Binds K d ["self"] [] ∧ FnOk P w K mg base (L2.CX P w) k f d ["self"] (spNil c)) ∧
    (∃ f d, Meth K MC "of_step" f ∧ Binds K d ["self", "step"] [] ∧ FnOk P w K mg base (L2.CX P w) k f d ["self", "step"] (spOfS K c)) ∧
    (∃ f d, Meth K MC "joined" f ∧ Binds K d ["self", "ahead", "behind"] [] ∧ FnOk P w K mg base (L2.CX P w) k f d ["self", "ahead", "behind"] (spJn c)) ∧
    (∃ f d, Meth K MC "repeated" f ∧ Binds K d ["self", "once", "many"] [] ∧ FnOk P w K mg base (L2.CX P w) k f d ["self", "once", "many"] (spRp c))
structure Good (P : Program) (w : World) (K : PySem.W.Frag) (mg : Str → Option Value) (base : Heap) (k : Nat) (SC RC : Addr) (c : Cfg α) : Prop where
  wk : WOk c
  b : BookAt K c
  m : MkC P w K mg base k c
  eS : c.SC = SC
  eR : c.RC = RC
def nxP (K : PySem.W.Frag) (c : Cfg α) (r N L : Addr) (x : Nx α) (Q : VK) (E : XK) : Prop :=
  match x with
  | .go st => ∀ H' fa, RAt K c r N L fa H' st → Q .non H'
  | .over => c.ER E
  | .dead => False
def spSi (K : PySem.W.Frag) (SC : Addr) : Sp := fun vs H Q _ => ∃ (x dx p q : Addr) (y : V) (es : List V) (nv kv wv : V), vs = [.ref x, .ref p, nv, kv, wv] ∧ H x = some (.ins SC dx []) ∧ SqT K H p [y, .ref q] ∧ SqT K H q es ∧
  ∀ H' T, SmX x H H' → H T = none → H' T = some (.lst es.reverse) → H' x = some (.ins SC dx [("todo", .ref T), ("name", nv), ("many", kv), ("worth", wv)]) → Q .non H'
theorem ok_Si {k : Nat} (R : RkC K mg SC RC g_Si g_Ri g_be g_ad g_do g_st g_fi g_wo e_Si e_Ri e_be e_ad e_do e_st e_fi e_wo) : FnOk P w K mg base CX0 (k + 1) g_Si e_Si ["self", "row", "name", "many", "worth"] (spSi K SC) := by
  refine R.FSi.ok scRk_Si (fun vs H Q E h => ?_) (fun cdv A outer st H vs Q E hr h => ?_)
  · obtain ⟨x, dx, p, q, y, es, nv, kv, wv, rfl, _⟩ := h
    rfl
  · obtain ⟨x, dx, p, q, y, es, nv, kv, wv, rfl, hx, hp, hq, qq⟩ := h
    refine ⟨_, (pss_cons (ps_fld (pv 0) (pe_callTy call_list_of (by rfl) R.zlist (by decide +kernel) (pa_cons (pe_revT (pe_ix ix_tup (pv 1) pe_int (fun _ _ => rfl))) pa_nil)) rfl)
      (pss_cons (ps_fld (pv 0) (pv 2) rfl)
      (pss_cons (ps_fld (pv 0) (pv 3) rfl)
      (pss_one (ps_fld (pv 0) (pv 4) rfl))))), ?_⟩
    refine ⟨_, rfl, p, _, 1, _, rfl, rfl, hp, rfl, q, es, rfl, hq, fun p1 n1 => ?_⟩
    refine ⟨p1, _, rfl, .inr (SqT.of upd_same), fun T nT => ?_⟩
    have nx : x ≠ p1 := ne_of_none hx n1
    have nT0 : H T = none := by
      have : T ≠ p1 := fun z => by rw [z, upd_same] at nT; cases nT
      rwa [upd_ne this] at nT
    have nxT : x ≠ T := ne_of_none hx nT0
    have n1T : p1 ≠ T := ne_of_none upd_same nT
    refine ⟨_, rfl, x, SC, dx, _, rfl, by rw [upd_ne nxT, upd_ne nx]; exact hx, R.clS, R.st, by decide, ?_⟩
    refine ⟨_, rfl, _, rfl, x, SC, dx, _, rfl, upd_same, R.clS, R.sn, by show 1 < 1000; decide, ?_⟩
    refine ⟨_, rfl, _, rfl, x, SC, dx, _, rfl, upd_same, R.clS, R.sm, by show 2 < 1000; decide, ?_⟩
    refine ⟨_, rfl, _, rfl, x, SC, dx, _, rfl, upd_same, R.clS, R.sw, by show 3 < 1000; decide, ?_⟩
    refine qq _ T (fun b o nb hb => ?_) nT0 ?_ upd_same
    · rw [upd_ne nb, upd_ne nb, upd_ne nb, upd_ne nb, upd_ne (ne_of_none hb nT0), upd_ne (ne_of_none hb n1)]
      exact hb
    · rw [upd_ne (Ne.symm nxT), upd_ne (Ne.symm nxT), upd_ne (Ne.symm nxT), upd_ne (Ne.symm nxT), upd_same]
def spBe (P : Program) (w : World) (K : PySem.W.Frag) (mg : Str → Option Value) (base : Heap) (α : Type) (k : Nat) (SC RC : Addr) : Sp := fun vs H Q E => ∃ (c : Cfg α) (r N L : Addr) (fa : List (Addr × Addr)) (st : Mch α) (v : V) (rr : List Stp) (nm : Option (List Nat)) (n : Nat),
  vs = [.ref r, v, nmV nm, .int (n : Nat)] ∧ Good P w K mg base k SC RC c ∧ RAt K c r N L fa H st ∧ Dp K c.H0 v (encR rr) ∧ alR c.ps rr ∧ (∀ n', nm = some n' → (c.bk n').isSome = true) ∧ c.ps (.times n []) ∧ nxP K c r N L (beginM c.O rr nm n st) Q E
theorem ok_Be {k : Nat} (R : RkC K mg SC RC g_Si g_Ri g_be g_ad g_do g_st g_fi g_wo e_Si e_Ri e_be e_ad e_do e_st e_fi e_wo) : FnOk P w K mg base (L2.CX P w) (k + 3) g_be e_be ["self", "row", "name", "many"] (spBe P w K mg base α k SC RC) := by
  have GSi : FnOk P w K mg base CX0 (0 + 1) g_Si e_Si ["self", "row", "name", "many", "worth"] (spSi K SC) := ok_Si R
  refine R.Fbe.okX scRk_be (fun vs H Q E h => ?_) (fun cdv A outer s0 H vs Q E hr h => ?_)
  · obtain ⟨c, r, N, L, fa, st, v, rr, nm, n, rfl, _⟩ := h
    rfl
  · obtain ⟨c, r, N, L, fa, st, v, rr, nm, n, rfl, G, RA, hd, hg, hnm, hps, q⟩ := h
    obtain ⟨MC, dm, fm, hm, clM, ⟨l1, l2, l3, l4⟩, ⟨f1, d1, mNo, bNo, GNo⟩, _⟩ := G.m.ex
    have r2 : Room (0 + 1 + 1) _ := hr.mono (by omega)
    have r0 : Room k _ := hr.mono (by omega)
    refine ⟨_, (pss_one (ps_expr (pe_bm PySem.F.plainAttrs_list PySem.F.slot_list_append PySem.F.type_list_append mt_append (pe_fld (pv 0) rfl) (pa_cons (pe_make R.mkS GSi r2 (by rfl) R.gS R.bSi .nil pass0 (pa_cons (pv 1) (pa_cons (pv 2) (pa_cons (pv 3) (pa_cons (pe_meth0 (E := E) (pe_fld (pv 0) rfl) clM mNo GNo r0 bNo .nil (passes_call (takes_of rfl rfl rfl rfl) (fun _ _ _ _ h => h))) pa_nil))))) pa_nil)))), ?_⟩
    obtain ⟨dr, hR⟩ := RA.hr
    rw [G.eR] at hR
    have hM := RA.old _ _ hm
    refine ⟨_, rfl, r, RC, dr, _, _, rfl, hR, R.clR, R.rr, rfl, .inl ⟨rfl, _, SqL.of RA.hL⟩, ?_⟩
    refine ⟨_, rfl, _, rfl, _, rfl, _, rfl, r, RC, dr, _, _, rfl, hR, R.clR, R.rm, rfl, c.ma, dm, fm, rfl, hM, l1, ?_⟩
    refine ⟨rfl, RA.old, fun H1 wv s1 hw => ?_⟩
    intro x dx nx ndx ne
    unfold encR at hd
    obtain ⟨p, va, vb, rfl, hT, ha, hb⟩ := dp_two hd
    unfold beginM at q
    have hl : st.fs.length < 1000 := Classical.byContradiction fun hl => by rw [if_neg hl] at q; exact q
    rw [if_pos hl] at q
    have fl := frs_len RA.hF
    cases hb with
    | tup hq hall =>
      rename_i pq xs
      have s2 : Same H1 (upd (upd H1 dx (.own x)) x (.ins SC dx [])) := sm_trans (same_upd ndx) (same_upd (by rw [upd_ne (Ne.symm ne)]; exact nx))
      have s02 := sm_trans (sm_trans RA.old s1) s2
      refine ⟨x, dx, p, pq, _, xs, _, _, _, rfl, upd_same, sm_t s02 hT, sm_t s02 hq, fun H3 T sx nT hTt hx => ⟨rfl, ?_⟩⟩
      have nx0 : H x = none := L2.Same.free s1 nx
      have nT1 : H1 T = none := L2.Same.free s2 nT
      have nT0 : H T = none := L2.Same.free s1 nT1
      have nxT : x ≠ T := ne_of_none upd_same nT
      have s3 : Same H H3 := fun b o hb => sx b o (ne_of_none hb nx0) (s2 _ _ (s1 _ _ hb))
      refine ⟨L, _, _, rfl, rfl, s3 _ _ RA.hL, by rw [List.length_reverse, List.length_map, sizeLine_eq]; omega, ?_⟩
      refine q _ _ (RA.push (f := ⟨rr, nm, n, c.O.w0⟩) G.wk s3 nx0 nT0 nxT (by rw [G.eS]; exact hx) hTt hall ⟨hg, hnm, G.wk.a0, hps⟩ ?_)
      refine G.wk.keep (G.wk.grow (hw _ RA.ex) fun b hb => ?_) (H := H1) fun b o nb hb => sx b o (ne_of_none hb nx) (s2 _ _ hb)
      unfold mOf at hb ⊢
      rw [flA] at hb
      simp only [List.mem_cons] at hb ⊢
      rcases hb with h | h | h | h | h | h
      · exact .inl (.inl h)
      · exact .inl (.inr (.inl h))
      · exact .inl (.inr (.inr (.inl h)))
      · exact .inr (h ▸ nx)
      · exact .inr (h ▸ nT1)
      · exact .inl (.inr (.inr (.inr h)))
def spAd (P : Program) (w : World) (K : PySem.W.Frag) (mg : Str → Option Value) (base : Heap) (α : Type) (k : Nat) (SC RC : Addr) : Sp := fun vs H Q E => ∃ (c : Cfg α) (r N L : Addr) (fa : List (Addr × Addr)) (st : Mch α) (v : V) (a : α),
  vs = [.ref r, v] ∧ Good P w K mg base k SC RC c ∧ RAt K c r N L fa H st ∧ c.W (mOf r N L fa) H v a ∧ nxP K c r N L (addM c.O a st) Q E
theorem ok_Ad {k : Nat} (R : RkC K mg SC RC g_Si g_Ri g_be g_ad g_do g_st g_fi g_wo e_Si e_Ri e_be e_ad e_do e_st e_fi e_wo) : FnOk P w K mg base (L2.CX P w) (k + 3) g_ad e_ad ["self", "worth"] (spAd P w K mg base α k SC RC) := by
  refine R.Fad.okX scRk_ad (fun vs H Q E h => ?_) (fun cdv A outer s0 H vs Q E hr h => ?_)
  · obtain ⟨c, r, N, L, fa, st, v, a, rfl, _⟩ := h
    rfl
  · obtain ⟨c, r, N, L, fa, st, v, a, rfl, G, RA, hv, q⟩ := h
    obtain ⟨MC, dm, fm, hm, clM, ⟨l1, l2, l3, l4⟩, _, _, ⟨f1, d1, mJn, bJn, GJn⟩, _⟩ := G.m.ex
    have nd := scRk_ad.nd
    have r0 : Room k _ := hr.mono (by omega)
    refine ⟨_, (pss_cons (ps_set (i := 2) nd rfl (.inl rfl) (pe_ix ix_list (pe_fld (pv 0) rfl) (pe_un un_neg pe_int) (fun _ _ => rfl)))
      (pss_one (ps_fld (pv 2) (pe_meth (E := E) (pe_fld (pv 0) rfl) clM mJn GJn r0 bJn .nil (passes_call (takes_of rfl rfl rfl rfl) (fun _ _ _ _ h => h)) (pa_cons (pe_fld (pv 2) rfl) (pa_cons (pv 1) pa_nil))) rfl))), ?_⟩
    obtain ⟨dr, hR⟩ := RA.hr
    rw [G.eR] at hR
    have hM := RA.old _ _ hm
    obtain ⟨fs, nd'⟩ := st
    cases fs with
    | nil => exact False.elim q
    | cons f fs =>
      cases fa with
      | nil => exact False.elim RA.hF
      | cons p fa =>
        obtain ⟨⟨ds, wv, hs, hw⟩, _⟩ := RA.hF.1
        rw [G.eS] at hs
        refine ⟨_, rfl, r, RC, dr, _, _, rfl, hR, R.clR, R.rr, rfl, 1, rfl, L, _, -1, .ref p.1, rfl, rfl, SqL.of RA.hL, ?_, ?_⟩
        · rw [List.map_cons, List.reverse_cons]; exact L2.atI_last _ _
        refine ⟨_, rfl, r, RC, dr, _, _, rfl, hR, R.clR, R.rm, rfl, c.ma, dm, fm, rfl, hM, l3, ?_⟩
        refine ⟨_, rfl, p.1, SC, ds, _, wv, rfl, hs, R.clS, R.sw, rfl, v, rfl, ?_⟩
        refine ⟨wv, v, f.wt, a, mOf r N L (p :: fa), rfl, RA.old, RA.ex, hw, hv, ?_⟩
        have q : nxP K c r N L (match c.O.jn f.wt a with | none => Nx.over | some b => .go ⟨⟨f.todo, f.nm, f.many, b⟩ :: fs, nd'⟩) Q E := q
        cases e : c.O.jn f.wt a with
        | none => rw [e] at q; exact q
        | some b =>
          rw [e] at q
          intro H1 v1 s1 hw1
          refine ⟨_, rfl, p.1, SC, ds, _, rfl, s1 _ _ hs, R.clS, R.sw, by show 4 < 1000; decide, ?_⟩
          have R2 := (RA.same G.wk s1).wt G.wk (dx := ds) hw1 (G.wk.aj _ _ _ e)
          rw [G.eS] at R2
          exact q _ _ R2
def spDo (P : Program) (w : World) (K : PySem.W.Frag) (mg : Str → Option Value) (base : Heap) (α : Type) (k : Nat) (SC RC : Addr) : Sp := fun vs H Q E => ∃ (c : Cfg α) (r N L : Addr) (fa : List (Addr × Addr)) (st : Mch α) (n : List Nat),
  vs = [.ref r, .str (tx n)] ∧ Good P w K mg base k SC RC c ∧ RAt K c r N L fa H st ∧ nxP K c r N L (nameM c.O c.bk n st) Q E
theorem ok_Do {k : Nat} (R : RkC K mg SC RC g_Si g_Ri g_be g_ad g_do g_st g_fi g_wo e_Si e_Ri e_be e_ad e_do e_st e_fi e_wo) : FnOk P w K mg base (L2.CX P w) (k + 4) g_do e_do ["self", "name"] (spDo P w K mg base α k SC RC) := by
  have GBe : FnOk P w K mg base (L2.CX P w) (k + 3) g_be e_be ["self", "row", "name", "many"] (spBe P w K mg base α k SC RC) := ok_Be R
  have GAd : FnOk P w K mg base (L2.CX P w) (k + 3) g_ad e_ad ["self", "worth"] (spAd P w K mg base α k SC RC) := ok_Ad R
  refine R.Fdo.okX scRk_do (fun vs H Q E h => ?_) (fun cdv A outer s0 H vs Q E hr h => ?_)
  · obtain ⟨c, r, N, L, fa, st, n, rfl, _⟩ := h
    rfl
  · obtain ⟨c, r, N, L, fa, st, n, rfl, G, RA, q⟩ := h
    have nd := scRk_do.nd
    have rR := hr
    refine ⟨_, (pss_cons (ps_if (pt_cmp (pc_dnotin (hu_of hr) (pv 1) (pe_fld (pv 0) rfl)))
        (pss_one ps_dead)
        pss_nil)
      (pss_one (ps_if (pt_cmp (pc_dnotin (hu_of hr) (pv 1) (pe_fld (pv 0) rfl)))
        (pss_cons (ps_dput (hu_of hr) (pe_fld (pv 0) rfl) (pv 1) pe_non rfl)
      (pss_one (ps_expr (pe_meth (E := E) (pv 0) R.clR R.mbe GBe rR R.bbe .nil (passes_call (takes_of rfl rfl rfl rfl) (fun _ _ _ _ h => h)) (pa_cons (pe_dget (hu_of hr) (pe_fld (pv 0) rfl) (pv 1) (fun _ _ => rfl)) (pa_cons (pv 1) (pa_cons pe_int pa_nil)))))))
        (pss_one (ps_if (pt_cmp (pc_isN (pe_dget (hu_of hr) (pe_fld (pv 0) rfl) (pv 1) (fun _ _ => rfl))))
        (pss_one ps_dead)
        (pss_one (ps_expr (pe_meth (E := E) (pv 0) R.clR R.mad GAd rR R.bad .nil (passes_call (takes_of rfl rfl rfl rfl) (fun _ _ _ _ h => h)) (pa_cons (pe_dget (hu_of hr) (pe_fld (pv 0) rfl) (pv 1) (fun _ _ => rfl)) pa_nil))))))))), ?_⟩
    obtain ⟨dr, hR⟩ := RA.hr
    rw [G.eR] at hR
    obtain ⟨kvs, hN, n1, n2, n3⟩ := RA.hN
    obtain ⟨fs, nd'⟩ := st
    cases eb : c.bk n with
    | none => unfold nameM at q; rw [eb] at q; exact False.elim q
    | some rr =>
      obtain ⟨bv, hbv, hbd, hbg⟩ := G.b.it n rr eb
      have gB : ∀ {H' : Hp}, Same c.H0 H' → DGet H' c.bo (.str (tx n)) (some bv) := fun s => by
        have := DGet.k (k := kN n) (s _ _ G.b.o)
        rw [hbv] at this
        exact this
      have gN : DGet H N (.str (tx n)) (valV kvs (kN n)) := DGet.k (k := kN n) hN
      have q : nxP K c r N L (match nd' n with
        | none => beginM c.O rr (some n) 1 ⟨fs, ndP nd' n none⟩
        | some none => .dead
        | some (some w) => addM c.O w ⟨fs, nd'⟩) Q E := by
        unfold nameM at q
        rw [eb] at q
        exact q
      refine ⟨_, rfl, _, rfl, r, RC, dr, _, _, rfl, hR, R.clR, R.rb, rfl, c.bo, some bv, rfl, gB RA.old, _, rfl, iteF ?_⟩
      have n3 := n3 n
      cases en : nd' n with
      | none =>
        rw [en] at q
        have n3 : (match nd' n with | none => valV kvs (kN n) = none | some none => valV kvs (kN n) = some .non | some (some w) => ∃ v, valV kvs (kN n) = some v ∧ c.W (mOf r N L fa) H v w) := n3
        rw [en] at n3
        have n3 : valV kvs (kN n) = none := n3
        rw [n3] at gN
        refine ⟨_, rfl, _, rfl, r, RC, dr, _, _, rfl, hR, R.clR, R.rn, rfl, N, none, rfl, gN, _, rfl, iteT ?_⟩
        obtain ⟨H1, hput, s1, RA1⟩ := RA.put G.wk G.b (n := n) (o := none) (by rw [eb]; rfl) rfl
        obtain ⟨dr1, hR1⟩ := RA1.hr
        rw [G.eR] at hR1
        refine ⟨_, rfl, r, RC, dr, _, _, rfl, hR, R.clR, R.rn, rfl, _, rfl, N, H1, rfl, hput, ?_⟩
        refine ⟨_, rfl, r, dr1, _, rfl, hR1, rfl, _, rfl, r, RC, dr1, _, _, rfl, hR1, R.clR, R.rb, rfl, _, rfl, c.bo, bv, rfl, gB RA1.old, _, rfl, ?_⟩
        exact ⟨c, r, N, L, fa, _, bv, rr, some n, 1, rfl, G, RA1, hbd, hbg, fun n' h => by cases h; rw [eb]; rfl, G.wk.p1, q⟩
      | some o =>
        rw [en] at q
        cases o with
        | none => exact False.elim q
        | some w =>
          have n3 : (match nd' n with | none => valV kvs (kN n) = none | some none => valV kvs (kN n) = some .non | some (some w) => ∃ v, valV kvs (kN n) = some v ∧ c.W (mOf r N L fa) H v w) := n3
          rw [en] at n3
          obtain ⟨v, n3, hw⟩ : ∃ v, valV kvs (kN n) = some v ∧ c.W (mOf r N L fa) H v w := n3
          rw [n3] at gN
          refine ⟨_, rfl, _, rfl, r, RC, dr, _, _, rfl, hR, R.clR, R.rn, rfl, N, some v, rfl, gN, _, rfl, iteF ?_⟩
          refine ⟨_, rfl, r, RC, dr, _, _, rfl, hR, R.clR, R.rn, rfl, _, rfl, N, v, rfl, gN, _, rfl, ?_⟩
          rw [decide_eq_false (G.wk.nn hw)]
          refine iteF ⟨_, rfl, r, dr, _, rfl, hR, rfl, _, rfl, r, RC, dr, _, _, rfl, hR, R.clR, R.rn, rfl, _, rfl, N, v, rfl, gN, ?_⟩
          exact ⟨c, r, N, L, fa, _, v, w, rfl, G, RA, hw, q⟩
def spSt (P : Program) (w : World) (K : PySem.W.Frag) (mg : Str → Option Value) (base : Heap) (α : Type) (k : Nat) (SC RC : Addr) : Sp := fun vs H Q E => ∃ (c : Cfg α) (r N L : Addr) (fa : List (Addr × Addr)) (st : Mch α) (v : V) (x : Stp),
  vs = [.ref r, v] ∧ Good P w K mg base k SC RC c ∧ RAt K c r N L fa H st ∧ Dp K c.H0 v (encS x) ∧ alS c.ps x ∧ nxP K c r N L (stepM c.O c.bk x st) Q E
theorem ok_St {k : Nat} (R : RkC K mg SC RC g_Si g_Ri g_be g_ad g_do g_st g_fi g_wo e_Si e_Ri e_be e_ad e_do e_st e_fi e_wo) : FnOk P w K mg base (L2.CX P w) (k + 5) g_st e_st ["self", "step"] (spSt P w K mg base α k SC RC) := by
  have GBe : FnOk P w K mg base (L2.CX P w) (k + 3) g_be e_be ["self", "row", "name", "many"] (spBe P w K mg base α k SC RC) := ok_Be R
  have GAd : FnOk P w K mg base (L2.CX P w) (k + 3) g_ad e_ad ["self", "worth"] (spAd P w K mg base α k SC RC) := ok_Ad R
  have GDo : FnOk P w K mg base (L2.CX P w) (k + 4) g_do e_do ["self", "name"] (spDo P w K mg base α k SC RC) := ok_Do R
  refine R.Fst.okX scRk_st (fun vs H Q E h => ?_) (fun cdv A outer s0 H vs Q E hr h => ?_)
  · obtain ⟨c, r, N, L, fa, st, v, x, rfl, _⟩ := h
    rfl
  · obtain ⟨c, r, N, L, fa, st, v, x, rfl, G, RA, hd, hg, q⟩ := h
    obtain ⟨MC, dm, fm, hm, clM, ⟨l1, l2, l3, l4⟩, _, ⟨f1, d1, mOf_, bOf, GOf⟩, _, _⟩ := G.m.ex
    have nd := scRk_st.nd
    have r3 : Room (k + 3) _ := hr.mono (by omega)
    have r0 : Room k _ := hr.mono (by omega)
    refine ⟨_, (pss_one (ps_if (pt_cmpR op_eq (pe_ix ix_tup (pv 1) pe_int (fun _ _ => rfl)) pe_str (nomark _))
        (pss_one (ps_expr (pe_meth (E := E) (pv 0) R.clR R.mbe GBe r3 R.bbe .nil (passes_call (takes_of rfl rfl rfl rfl) (fun _ _ _ _ h => h)) (pa_cons (pe_ix ix_tup (pv 1) pe_int (fun _ _ => rfl)) (pa_cons pe_non (pa_cons (pe_ix ix_tup (pv 1) pe_int (fun _ _ => rfl)) pa_nil))))))
        (pss_one (ps_if (pt_cmpR op_eq (pe_ix ix_tup (pv 1) pe_int (fun _ _ => rfl)) pe_str (nomark _))
        (pss_one (ps_expr (pe_meth (E := E) (pv 0) R.clR R.mdo GDo hr R.bdo .nil (passes_call (takes_of rfl rfl rfl rfl) (fun _ _ _ _ h => h)) (pa_cons (pe_ix ix_tup (pv 1) pe_int (fun _ _ => rfl)) pa_nil))))
        (pss_one (ps_expr (pe_meth (E := E) (pv 0) R.clR R.mad GAd r3 R.bad .nil (passes_call (takes_of rfl rfl rfl rfl) (fun _ _ _ _ h => h)) (pa_cons (pe_meth (E := E) (pe_fld (pv 0) rfl) clM mOf_ GOf r0 bOf .nil (passes_call (takes_of rfl rfl rfl rfl) (fun _ _ _ _ h => h)) (pa_cons (pv 1) pa_nil)) pa_nil)))))))), ?_⟩
    obtain ⟨dr, hR⟩ := RA.hr
    rw [G.eR] at hR
    have hM := RA.old _ _ hm
    cases x with
    | call t =>
      rw [encS] at hd
      have hd0 := hd
      obtain ⟨p, va, vb, rfl, hT, ha, hb⟩ := dp_two hd
      cases ha; cases hb
      rw [alS] at hg
      have hT := sm_t RA.old hT
      refine ⟨_, rfl, p, _, 0, _, rfl, rfl, hT, rfl, rfl, _, rfl, ?_⟩
      rw [show decide (V.str "call" = V.str "times") = false from decide_eq_false fun h => by cases V.str.inj h]
      refine iteF ⟨_, rfl, p, _, 0, _, rfl, rfl, hT, rfl, rfl, _, rfl, ?_⟩
      rw [show decide (V.str "call" = V.str "row") = false from decide_eq_false fun h => by cases V.str.inj h]
      refine iteF ⟨_, rfl, r, dr, _, rfl, hR, rfl, _, rfl, r, RC, dr, _, _, rfl, hR, R.clR, R.rm, rfl, c.ma, dm, fm, rfl, hM, l2, _, rfl, ?_⟩
      refine ⟨.ref p, .call t, rfl, RA.old, by rw [encS]; exact hd0, .inl ⟨_, rfl⟩, hg, fun H1 v1 s1 hw1 => ?_⟩
      exact ⟨c, r, N, L, fa, st, v1, c.O.oS (.call t), rfl, G, RA.same G.wk s1, hw1 _ RA.ex, q⟩
    | turn t =>
      rw [encS] at hd
      have hd0 := hd
      obtain ⟨p, va, vb, rfl, hT, ha, hb⟩ := dp_two hd
      cases ha; cases hb
      rw [alS] at hg
      have hT := sm_t RA.old hT
      refine ⟨_, rfl, p, _, 0, _, rfl, rfl, hT, rfl, rfl, _, rfl, ?_⟩
      rw [show decide (V.str "turn" = V.str "times") = false from decide_eq_false fun h => by cases V.str.inj h]
      refine iteF ⟨_, rfl, p, _, 0, _, rfl, rfl, hT, rfl, rfl, _, rfl, ?_⟩
      rw [show decide (V.str "turn" = V.str "row") = false from decide_eq_false fun h => by cases V.str.inj h]
      refine iteF ⟨_, rfl, r, dr, _, rfl, hR, rfl, _, rfl, r, RC, dr, _, _, rfl, hR, R.clR, R.rm, rfl, c.ma, dm, fm, rfl, hM, l2, _, rfl, ?_⟩
      refine ⟨.ref p, .turn t, rfl, RA.old, by rw [encS]; exact hd0, .inr ⟨_, rfl⟩, hg, fun H1 v1 s1 hw1 => ?_⟩
      exact ⟨c, r, N, L, fa, st, v1, c.O.oS (.turn t), rfl, G, RA.same G.wk s1, hw1 _ RA.ex, q⟩
    | row n =>
      rw [encS] at hd
      obtain ⟨p, va, vb, rfl, hT, ha, hb⟩ := dp_two hd
      cases ha; cases hb
      have hT := sm_t RA.old hT
      refine ⟨_, rfl, p, _, 0, _, rfl, rfl, hT, rfl, rfl, _, rfl, ?_⟩
      rw [show decide (V.str "row" = V.str "times") = false from decide_eq_false fun h => by cases V.str.inj h]
      refine iteF ⟨_, rfl, p, _, 0, _, rfl, rfl, hT, rfl, rfl, _, rfl, ?_⟩
      rw [show decide (V.str "row" = V.str "row") = true from decide_eq_true rfl]
      refine iteT ⟨_, rfl, r, dr, _, rfl, hR, rfl, _, rfl, p, _, 1, _, rfl, rfl, hT, rfl, ?_⟩
      exact ⟨c, r, N, L, fa, st, n, rfl, G, RA, q⟩
    | times m r' =>
      rw [encS] at hd
      obtain ⟨p, va, vb, vc, rfl, hT, ha, hb, hc⟩ := dp_three hd
      cases ha; cases hb
      rw [alS] at hg
      have hT := sm_t RA.old hT
      refine ⟨_, rfl, p, _, 0, _, rfl, rfl, hT, rfl, rfl, _, rfl, ?_⟩
      rw [show decide (V.str "times" = V.str "times") = true from decide_eq_true rfl]
      refine iteT ⟨_, rfl, r, dr, _, rfl, hR, rfl, _, rfl, p, _, 2, _, rfl, rfl, hT, rfl, _, rfl, p, _, 1, _, rfl, rfl, hT, rfl, ?_⟩
      exact ⟨c, r, N, L, fa, st, vc, r', none, m, rfl, G, RA, hc, hg.2, nofun, hg.1, q⟩
def spFi (P : Program) (w : World) (K : PySem.W.Frag) (mg : Str → Option Value) (base : Heap) (α : Type) (k : Nat) (SC RC : Addr) : Sp := fun vs H Q E => ∃ (c : Cfg α) (r N L : Addr) (fa : List (Addr × Addr)) (st : Mch α),
  vs = [.ref r] ∧ Good P w K mg base k SC RC c ∧ RAt K c r N L fa H st ∧ nxP K c r N L (finM c.O st) Q E
theorem ok_Fi {k : Nat} (R : RkC K mg SC RC g_Si g_Ri g_be g_ad g_do g_st g_fi g_wo e_Si e_Ri e_be e_ad e_do e_st e_fi e_wo) : FnOk P w K mg base (L2.CX P w) (k + 4) g_fi e_fi ["self"] (spFi P w K mg base α k SC RC) := by
  have GAd : FnOk P w K mg base (L2.CX P w) (k + 3) g_ad e_ad ["self", "worth"] (spAd P w K mg base α k SC RC) := ok_Ad R
  refine R.Ffi.okX scRk_fi (fun vs H Q E h => ?_) (fun cdv A outer s0 H vs Q E hr h => ?_)
  · obtain ⟨c, r, N, L, fa, st, rfl, _⟩ := h
    rfl
  · obtain ⟨c, r, N, L, fa, st, rfl, G, RA, q⟩ := h
    obtain ⟨MC, dm, fm, hm, clM, ⟨l1, l2, l3, l4⟩, _, _, _, ⟨f1, d1, mRp, bRp, GRp⟩⟩ := G.m.ex
    have nd := scRk_fi.nd
    have r0 : Room k _ := hr.mono (by omega)
    refine ⟨_, (pss_cons (ps_set (i := 1) nd rfl (.inl rfl) (pe_bm0 PySem.F.plainAttrs_list PySem.F.slot_list_pop PySem.F.type_list_pop mt_pop (pe_fld (pv 0) rfl)))
      (pss_cons (ps_set (i := 2) nd rfl (.inl rfl) (pe_meth (E := E) (pe_fld (pv 0) rfl) clM mRp GRp r0 bRp .nil (passes_call (takes_of rfl rfl rfl rfl) (fun _ _ _ _ h => h)) (pa_cons (pe_fld (pv 1) rfl) (pa_cons (pe_fld (pv 1) rfl) pa_nil))))
      (pss_cons (ps_if (pt_cmp (pc_notN (pe_fld (pv 1) rfl)))
        (pss_one (ps_dput (hu_of hr) (pe_fld (pv 0) rfl) (pe_fld (pv 1) rfl) (pv 2) rfl))
        pss_nil)
      (pss_one (ps_expr (pe_meth (E := E) (pv 0) R.clR R.mad GAd hr R.bad .nil (passes_call (takes_of rfl rfl rfl rfl) (fun _ _ _ _ h => h)) (pa_cons (pv 2) pa_nil))))))), ?_⟩
    obtain ⟨dr, hR⟩ := RA.hr
    rw [G.eR] at hR
    obtain ⟨fs, nd'⟩ := st
    cases fs with
    | nil => exact False.elim q
    | cons f fs =>
      cases fa with
      | nil => exact False.elim RA.hF
      | cons p fa =>
        have hL : H L = some (.lst ((fa.map fun p => V.ref p.1).reverse ++ [.ref p.1])) := by rw [RA.hL, List.map_cons, List.reverse_cons]
        obtain ⟨ds, wv, hs, hw, hb, RA1⟩ := RA.popF G.wk
        rw [G.eS] at hs
        refine ⟨_, rfl, r, RC, dr, _, _, rfl, hR, R.clR, R.rr, rfl, .inl ⟨rfl, _, SqL.of hL⟩, L, _, .ref p.1, rfl, rfl, hL, get_last _ _, ?_⟩
        rw [List.dropLast_concat]
        generalize upd H L (.lst (fa.map fun p => V.ref p.1).reverse) = H1 at hs hw RA1
        obtain ⟨dr1, hR1⟩ := RA1.hr
        rw [G.eR] at hR1
        have hM := RA1.old _ _ hm
        refine ⟨_, rfl, r, RC, dr1, _, _, rfl, hR1, R.clR, R.rm, rfl, c.ma, dm, fm, rfl, hM, l4, ?_⟩
        refine ⟨_, rfl, p.1, SC, ds, _, wv, rfl, hs, R.clS, R.sw, rfl, _, rfl, p.1, SC, ds, _, _, rfl, hs, R.clS, R.sm, rfl, ?_⟩
        refine ⟨wv, f.wt, f.many, mOf r N L fa, rfl, RA1.old, RA1.ex, hw, hb.2.1, hb.2.2, fun H2 v2 s2 hw2 => ?_⟩
        have RA2 := RA1.same G.wk s2
        have hs2 := s2 _ _ hs
        have hR2 := s2 _ _ hR1
        have q : nxP K c r N L (addM c.O (c.O.rp f.wt f.many) ⟨fs, ndF nd' f.nm (c.O.rp f.wt f.many)⟩) Q E := q
        refine ⟨_, rfl, p.1, SC, ds, _, _, rfl, hs2, R.clS, R.sn, rfl, _, rfl, ?_⟩
        cases en : f.nm with
        | none =>
          rw [en] at q
          refine iteF ⟨_, rfl, r, dr1, _, rfl, hR2, rfl, _, rfl, ?_⟩
          exact ⟨c, r, N, L, fa, _, v2, _, rfl, G, RA2, hw2, q⟩
        | some n =>
          rw [en] at q hs2
          refine iteT ?_
          obtain ⟨H3, hput, s3, RA3⟩ := RA2.put G.wk G.b (n := n) (o := some (c.O.rp f.wt f.many)) (hb.1 n en) hw2
          obtain ⟨dr3, hR3⟩ := RA3.hr
          rw [G.eR] at hR3
          refine ⟨_, rfl, _, rfl, r, RC, dr1, _, _, rfl, hR2, R.clR, R.rn, rfl, _, rfl, p.1, SC, ds, _, _, rfl, hs2, R.clS, R.sn, rfl, N, H3, rfl, hput, ?_⟩
          refine ⟨_, rfl, r, dr3, _, rfl, hR3, rfl, _, rfl, ?_⟩
          exact ⟨c, r, N, L, fa, _, v2, _, rfl, G, RA3, G.wk.keep hw2 (smx_all s3 (by simp [mOf])), q⟩
def spWo (P : Program) (w : World) (K : PySem.W.Frag) (mg : Str → Option Value) (base : Heap) (α : Type) (k : Nat) (SC RC : Addr) : Sp := fun vs H Q E => ∃ (c : Cfg α) (r N L : Addr) (v : V) (rr : List Stp) (m : Nat),
  vs = [.ref r, v] ∧ Good P w K mg base k SC RC c ∧ RAt K c r N L [] H ⟨[], fun _ => none⟩ ∧ Dp K c.H0 v (encR rr) ∧ alR c.ps rr ∧
  match runM c.O c.bk m ⟨[⟨rr, none, 1, c.O.w0⟩], fun _ => none⟩ with
  | .done a => ∀ H' v, Same c.H0 H' → c.W [] H' v a → Q v H'
  | .over => c.ER E
  | .dead => False
theorem ok_Wo {k : Nat} (R : RkC K mg SC RC g_Si g_Ri g_be g_ad g_do g_st g_fi g_wo e_Si e_Ri e_be e_ad e_do e_st e_fi e_wo) : FnOk P w K mg base (L2.CX P w) (k + 6) g_wo e_wo ["self", "row"] (spWo P w K mg base α k SC RC) := by
  have GBe : FnOk P w K mg base (L2.CX P w) (k + 3) g_be e_be ["self", "row", "name", "many"] (spBe P w K mg base α k SC RC) := ok_Be R
  have GSt : FnOk P w K mg base (L2.CX P w) (k + 5) g_st e_st ["self", "step"] (spSt P w K mg base α k SC RC) := ok_St R
  have GFi : FnOk P w K mg base (L2.CX P w) (k + 4) g_fi e_fi ["self"] (spFi P w K mg base α k SC RC) := ok_Fi R
  refine R.Fwo.okX scRk_wo (fun vs H Q E h => ?_) (fun cdv A outer s0 H vs Q E hr h => ?_)
  · obtain ⟨c, r, N, L, v, rr, m, rfl, _⟩ := h
    rfl
  · obtain ⟨c, r, N, L, v, rr, m, rfl, G, RA, hd, hg, q⟩ := h
    have nd := scRk_wo.nd
    have r3 : Room (k + 3) _ := hr.mono (by omega)
    have r4 : Room (k + 4) _ := hr.mono (by omega)
    refine ⟨_, (pss_cons (ps_expr (pe_meth (E := E) (pv 0) R.clR R.mbe GBe r3 R.bbe .nil (passes_call (takes_of rfl rfl rfl rfl) (fun _ _ _ _ h => h)) (pa_cons (pv 1) (pa_cons pe_non (pa_cons pe_int pa_nil)))))
      (pss_cons (ps_while (passes_of rfl) (pt_imp (t' := tCnd K c r N L) (PW.pt (pw_or (pt_cmpR op_gt (pe_callB call_len_seq (by rfl) R.zlen PySem.boot_len (pa_cons (pe_fld (pv 0) rfl) pa_nil)) pe_int (nomark _)) (pw_or1 (pt_truth (pe_fld (pe_ix ix_list (pe_fld (pv 0) rfl) pe_int (fun _ _ => rfl)) rfl) (by intro _; rfl))))) ?cnd)
        (pss_cons (ps_set (i := 2) nd rfl (.inl rfl) (pe_ix ix_list (pe_fld (pv 0) rfl) (pe_un un_neg pe_int) (fun _ _ => rfl)))
      (pss_one (ps_if (pt_truth (pe_fld (pv 2) rfl) (by intro _; rfl))
        (pss_one (ps_expr (pe_meth (E := E) (pv 0) R.clR R.mst GSt hr R.bst .nil (passes_call (takes_of rfl rfl rfl rfl) (fun _ _ _ _ h => h)) (pa_cons (pe_bm0 PySem.F.plainAttrs_list PySem.F.slot_list_pop PySem.F.type_list_pop mt_pop (pe_fld (pv 2) rfl)) pa_nil))))
        (pss_one (ps_expr (pe_meth0 (E := E) (pv 0) R.clR R.mfi GFi r4 R.bfi .nil (passes_call (takes_of rfl rfl rfl rfl) (fun _ _ _ _ h => h)))))))))
      (pss_one (ps_ret (pe_fld (pe_ix ix_list (pe_fld (pv 0) rfl) pe_int (fun _ _ => rfl)) rfl))))), ?_⟩
    case cnd =>
      rintro σ H1 Q1 ⟨fa, st, y1, y2, rfl, RA1, hne, q1⟩
      obtain ⟨dr, hR⟩ := RA1.hr
      rw [G.eR] at hR
      have fl := frs_len RA1.hF
      have hL := RA1.hL
      refine ⟨_, rfl, r, RC, dr, _, _, rfl, hR, R.clR, R.rr, rfl, L, _, rfl, .inl (SqL.of hL), _, 1, rfl, rfl, _, rfl, ?_⟩
      obtain ⟨fs, nd'⟩ := st
      cases fs with
      | nil => exact absurd rfl hne
      | cons f fs =>
        cases fs with
        | cons g fs =>
          rw [decide_eq_true (by rw [List.length_reverse, List.length_map, ← fl]; show (1 : Int) < ((fs.length + 1 + 1 : Nat) : Int); omega)]
          exact iteT q1
        | nil =>
          rw [decide_eq_false (by rw [List.length_reverse, List.length_map, ← fl]; show ¬ (1 : Int) < ((0 + 1 : Nat) : Int); omega)]
          cases fa with
          | nil => exact False.elim RA1.hF
          | cons p fa =>
            cases fa with
            | cons _ _ => exact False.elim RA1.hF.2
            | nil =>
              obtain ⟨⟨ds, wv, hs, hw⟩, ⟨vs, ht, hda⟩, _⟩ := RA1.hF.1
              rw [G.eS] at hs
              refine iteF ⟨_, rfl, r, RC, dr, _, _, rfl, hR, R.clR, R.rr, rfl, L, _, 0, .ref p.1, rfl, rfl, SqL.of hL, rfl, p.1, SC, ds, _, _, rfl, hs, R.clS, R.st, rfl, _, .inl ⟨_, SqL.of ht, rfl⟩, ?_⟩
              have l := dpa_len hda
              rw [encL_len] at l
              have e : (!vs.reverse.isEmpty) = (isEnd (⟨[f], nd'⟩ : Mch α)).isNone := by
                show _ = (if f.todo.isEmpty = true then some f.wt else none).isNone
                cases hv : f.todo with
                | nil =>
                  rw [hv] at l
                  rw [List.length_eq_zero_iff.mp l]
                  rfl
                | cons x xs =>
                  rw [hv] at l
                  cases vs with
                  | nil => simp at l
                  | cons v0 vs => rw [List.isEmpty_reverse]; rfl
              rw [e]
              exact q1
    obtain ⟨dr, hR⟩ := RA.hr
    rw [G.eR] at hR
    have qb : ∀ (Q1 : VK), (∀ H1 fa, RAt K c r N L fa H1 ⟨[⟨rr, none, 1, c.O.w0⟩], fun _ => none⟩ → Q1 .non H1) → nxP K c r N L (beginM c.O rr none 1 ⟨[], fun _ => none⟩) Q1 E := fun Q1 h => h
    refine ⟨_, rfl, r, dr, _, rfl, hR, rfl, _, rfl, c, r, N, L, [], _, v, rr, none, 1, rfl, G, RA, hd, hg, nofun, G.wk.p1, qb _ fun H1 fa1 RA1 => ?_⟩
    refine ⟨fun m σ H' => ∃ (fa : List (Addr × Addr)) (st : Mch α) (y : Option V), σ = [some (.ref r), some v, y] ∧ RAt K c r N L fa H' st ∧
      (match runM c.O c.bk m st with
        | .done a => ∀ H' v, Same c.H0 H' → c.W [] H' v a → Q v H'
        | .over => c.ER E
        | .dead => False), ⟨m, fa1, _, _, rfl, RA1, q⟩, ?_⟩
    rintro m σ H2 ⟨fa, ⟨fs, nd'⟩, y, rfl, RA2, q2⟩
    obtain ⟨dr2, hR2⟩ := RA2.hr
    rw [G.eR] at hR2
    have hL := RA2.hL
    cases m with
    | zero => exact False.elim q2
    | succ m =>
      cases fs with
      | nil => exact False.elim q2
      | cons f fs =>
        cases fa with
        | nil => exact False.elim RA2.hF
        | cons p fa =>
          have hL : H2 L = some (.lst ((fa.map fun p => V.ref p.1).reverse ++ [.ref p.1])) := by rw [RA2.hL, List.map_cons, List.reverse_cons]
          refine ⟨_, _, _, _, rfl, RA2, nofun, ?_⟩
          rw [runM] at q2
          obtain ⟨⟨ds, wv, hs, hw⟩, ⟨vs, ht, hda⟩, _⟩ := RA2.hF.1
          rw [G.eS] at hs
          cases ie : isEnd (⟨f :: fs, nd'⟩ : Mch α) with
          | some a =>
            rw [ie] at q2
            cases fs with
            | cons g fs => cases ie
            | nil =>
              cases fa with
              | cons _ _ => exact False.elim RA2.hF.2
              | nil =>
                have ie : (if f.todo.isEmpty = true then some f.wt else none) = some a := ie
                have ea : a = f.wt := by
                  split at ie
                  · cases ie; rfl
                  · cases ie
                subst ea
                refine iteF ⟨_, rfl, r, RC, dr2, _, _, rfl, hR2, R.clR, R.rr, rfl, L, _, 0, .ref p.1, rfl, rfl, SqL.of hL, rfl, p.1, SC, ds, _, wv, rfl, hs, R.clS, R.sw, rfl, ?_⟩
                exact q2 H2 wv RA2.old (G.wk.grow hw fun b hb => by cases hb)
          | none =>
            rw [ie] at q2
            refine iteT ⟨_, fun _ _ h => h, ?_⟩
            refine ⟨_, rfl, r, RC, dr2, _, _, rfl, hR2, R.clR, R.rr, rfl, 1, rfl, L, _, -1, .ref p.1, rfl, rfl, SqL.of hL, L2.atI_last _ _, ?_⟩
            refine ⟨_, rfl, p.1, SC, ds, _, _, rfl, hs, R.clS, R.st, rfl, _, .inl ⟨_, SqL.of ht, rfl⟩, ?_⟩
            have nxt : ∀ (x : Nx α), (match (match x with | .go s' => runM c.O c.bk m s' | .over => .over | .dead => .dead) with
                | .done a => ∀ H' v, Same c.H0 H' → c.W [] H' v a → Q v H'
                | .over => c.ER E
                | .dead => False) → nxP K c r N L x (fun _ H' => ∃ m', m' < m + 1 ∧ ∃ (fa : List (Addr × Addr)) (st : Mch α) (y : Option V), [some (V.ref r), some v, some (.ref p.1)] = [some (V.ref r), some v, y] ∧ RAt K c r N L fa H' st ∧
                  (match runM c.O c.bk m' st with
                    | .done a => ∀ H' v, Same c.H0 H' → c.W [] H' v a → Q v H'
                    | .over => c.ER E
                    | .dead => False)) E := by
              intro x hx
              cases x with
              | go s' => exact fun H' fa' RA' => ⟨m, Nat.lt_succ_self _, fa', s', _, rfl, RA', hx⟩
              | over => exact hx
              | dead => exact hx
            cases et : f.todo with
            | nil =>
              have l := dpa_len hda
              rw [et] at l
              have : vs = [] := List.length_eq_zero_iff.mp (by rw [l, encL]; rfl)
              subst this
              have tm : turnM c.O c.bk ⟨f :: fs, nd'⟩ = finM c.O ⟨f :: fs, nd'⟩ := by
                unfold turnM
                show (match f.todo with | [] => _ | x :: r => _) = _
                rw [et]
              rw [tm] at q2
              refine iteF ⟨_, rfl, r, dr2, _, rfl, hR2, rfl, ?_⟩
              exact ⟨c, r, N, L, _, _, rfl, G, RA2, nxt _ q2⟩
            | cons x l =>
              have tm : turnM c.O c.bk ⟨f :: fs, nd'⟩ = stepM c.O c.bk x ⟨⟨l, f.nm, f.many, f.wt⟩ :: fs, nd'⟩ := by
                unfold turnM
                show (match f.todo with | [] => _ | x :: r => _) = _
                rw [et]
              rw [tm] at q2
              obtain ⟨v0, vs0, hT, hv0, hal, RA3⟩ := RA2.popT G.wk et
              have ev : vs.reverse = vs0.reverse ++ [v0] := by
                rw [ht] at hT
                injection hT with hT
                injection hT
              rw [show (!vs.reverse.isEmpty) = true by rw [ev]; simp]
              refine iteT ⟨_, rfl, r, dr2, _, rfl, hR2, rfl, _, rfl, p.1, SC, ds, _, _, rfl, hs, R.clS, R.st, rfl, .inl ⟨rfl, _, SqL.of hT⟩, p.2, _, v0, rfl, rfl, hT, get_last _ _, ?_⟩
              rw [List.dropLast_concat]
              exact ⟨c, r, N, L, _, _, v0, x, rfl, G, RA3, hv0, hal, nxt _ q2⟩
end
end NC
namespace NC
open PySem PySem.Spec PyProof.Rows L2
/-- the ends of a suite whose clause names slot i -/
def endsAs (i : Nat) (D : Ends) : Ends := { nx := fun σ => D.nx (σ.set i none), rt := D.rt, bk := fun σ => D.bk (σ.set i none), ct := fun σ => D.ct (σ.set i none) }
abbrev Clause := Value × Nat × (Addr → Value → Option Addr → TS)
def wManyA (K : PySem.W.Frag) (Wout : WX) (D : Ends) : List Clause → WX
  | [] => Wout
  | c :: r => fun cls d σ H => ∃ b, PySem.W.exmOne K cls c.1 = some b ∧ (b = true → ∀ a, H a = none → c.2.2 a cls d (endsAs c.2.1 D) (σ.set c.2.1 (some (.ref a))) H) ∧ (b = false → wManyA K Wout D r cls d σ H)
/-- the clause 'except x as n' reads c -/
structure AsOk (X : Cx) (x n : Str) (suite : List Stmt) (c : Clause) : Prop where
  slot : X.N[c.2.1]? = some n
  kind : X.env.kindOf n = some .local
  cls : Names X x c.1
  run : ∀ (a : Addr) (oe : Obj) (cls : Value) (d : Option Addr) (pn : List (Addr × Obj)), Zc cls d oe → (∃ vs, oe.data = .fields vs) → PSs (X.suite a ((a, oe) :: pn)) suite (c.2.2 a cls d)
inductive HdsA (X : Cx) : List ExceptHandler → List Clause → Prop
  | nil : HdsA X [] []
  | cons {x n : Str} {c : Clause} {b₀ : Stmt} {suite : List Stmt} {p q : Pos} {hds : List ExceptHandler} {l : List Clause} (ok : AsOk X x n (b₀ :: suite) c) (r : HdsA X hds l) : HdsA X (.ExceptHandler (some (.Name x p)) (some n) (b₀ :: suite) q :: hds) (c :: l)
/-- the exception at a, caught in X's own frame, with the state t -/
structure Gnd (X : Cx) (pins : List (Addr × Obj)) (a : Addr) (cls : Value) (d : Option Addr) (σ : L2.St) (H : Hp) (B : Heap) (t0 t : Shared) : Prop where
  own : X.stack = X.env :: X.outer
  frm : X.env.frame = some X.env.locals
  was : Inv X pins σ H t0
  low : ∀ b o, t0.heap.get? b = some o → b ∉ frs X.stack → B.get? b = some o
  up : t0.heap.UpToSlots t.heap
  new : H a = none
  io : t.os = t0.os
  gen : AllBare t.gens
  fly : HandSPX.FlyingZ B (X.env :: X.outer) a (Zc cls d) t.heap
section
variable {X : Cx} {pins : List (Addr × Obj)} {a : Addr} {cls : Value} {d : Option Addr} {σ : L2.St} {H : Hp} {B : Heap} {t0 t : Shared} {D : Ends}
theorem Gnd.to (G : Gnd X pins a cls d σ H B t0 t) {h : Heap} (f : HandSPX.FlyingZ B (X.env :: X.outer) a (Zc cls d) h) (u : t.heap.UpToSlots h) : Gnd X pins a cls d σ H B t0 { t with heap := h } := { G with up := G.up.trans u, fly := f }
theorem Gnd.now (G : Gnd X pins a cls d σ H B t0 t) : Inv X pins σ H t := G.was.landed G.low G.fly.1 G.up G.io G.gen
/-- the exception is no frame -/
theorem Gnd.off (G : Gnd X pins a cls d σ H B t0 t) : a ∉ frs (X.env :: X.outer) := fun z => by
  obtain ⟨o, vs, g1, _, g2⟩ := G.fly.there
  obtain ⟨_, o2, g3, g4⟩ := G.fly.2.2.1.mem z
  exact g4 _ ((Option.some.inj (g3.symm.trans g1)) ▸ g2)
/-- the state in the clause's suite -/
theorem Gnd.inS (G : Gnd X pins a cls d σ H B t0 t) : ∃ oe, Zc cls d oe ∧ (∃ vs, oe.data = .fields vs) ∧ t.heap.get? a = some oe ∧ Inv (X.suite a ((a, oe) :: (X.pn ++ pins))) [] σ H t := by
  obtain ⟨o, vs, g1, g2, g3⟩ := G.fly.there
  refine ⟨o, g2, ⟨vs, g3⟩, g1, G.now.suite g1 g3 G.new (fun z => G.off ?_) fun z => G.off ?_⟩
  · exact List.mem_filterMap.mpr ⟨_, .head _, G.frm.trans (congrArg some z.symm)⟩
  · exact let ⟨e, m, q⟩ := List.mem_filterMap.mp z; List.mem_filterMap.mpr ⟨e, .tail _ m, q⟩
/-- no clause is left: it flies on -/
theorem gnd_out {Wout : WX} (tk : Takes X Wout) (G : Gnd X pins a cls d σ H B t0 t) (w : Wout cls d σ H) : wpAny (model X.prog X.w) X.A (handleBy (.ref a) X.env []) (SP X pins D) X.xe t := by
  have away : wpAny (model X.prog X.w) X.A (setFlight (.ref a) (some X.env.locals)) (fun _ v => wpAny (model X.prog X.w) X.A (throw (.ref a) : Sem Flow) (SP X pins D) X.xe v) X.xe t :=
    HandSPX.setFlight_upZ G.fly fun g held u => wpAny_throw (tk _ _ ⟨a, B, t0, pins, σ, H, cls, d, rfl, G.was, G.low, G.up.trans u, .inr (.inr (G.own ▸ held)), G.new, G.io, G.gen, w⟩)
  rw [← G.frm] at away
  obtain ⟨_, _, _, o, vs, tb, _, _, g1, _, g2, g3, _⟩ := G.fly
  refine wpAny_handleBy_nil ?_
  unfold PySem.passOn
  refine wpAny_bind (wpAny_field g1 g2 g3 ?_)
  have nn : ¬ (Value.ref tb == Value.none) = true := by simp
  rw [if_neg nn]
  first | exact wpAny_bind (wpAny_pure (wpAny_bind away)) | exact wpAny_bind away
/-- one clause: its suite, or what follows it -/
theorem gnd_as {x n : Str} {c : Clause} {b₀ : Stmt} {suite : List Stmt} {p q : Pos} {hds : List ExceptHandler} (hN : X.N.Nodup) (C : AsOk X x n (b₀ :: suite) c) (G : Gnd X pins a cls d σ H B t0 t) {b : Bool} (m : PySem.W.exmOne X.K cls c.1 = some b)
    (yes : b = true → c.2.2 a cls d (endsAs c.2.1 D) (σ.set c.2.1 (some (.ref a))) H) (no : b = false → wpAny (model X.prog X.w) X.A (handleBy (.ref a) X.env hds) (SP X pins D) X.xe t) :
    wpAny (model X.prog X.w) X.A (handleBy (.ref a) X.env (.ExceptHandler (some (.Name x p)) (some n) (b₀ :: suite) q :: hds)) (SP X pins D) X.xe t := by
  obtain ⟨oe, z1, z2, z3, I⟩ := G.inS
  have lk : PySem.W.Looks (model X.prog X.w) t.heap (typeOf (.ref a)) cls := fun _ _ _ _ k r => wpAny_typeOf_ref (k _ _ z3) (z1.1.symm ▸ r)
  have nm : ∀ {Q E : Value → Shared → Prop}, Q c.1 t → wpAny (model X.prog X.w) (X.A.mark (some (.ref a))) (eval (.Name x p) X.env) Q E t := fun {Q E} r => C.cls.2.2.elim
    (fun g => ld_glob (X := X.suite a ((a, oe) :: (X.pn ++ pins))) I C.cls.1 g r C.cls.2.1) (fun g => ld_blt (X := X.suite a ((a, oe) :: (X.pn ++ pins))) I C.cls.1 g.1 g.2.1 r g.2.2 C.cls.2.1)
  refine wpAny_handleBy_cons (codeAny_handlers_test (nm ((PySem.W.exm_one (M := model X.prog X.w) G.now.kIn lk m).here ?_))) nofun
  cases b with
  | false => exact no rfl
  | true =>
    refine codeAny_handlers_suite_as (HandSPX.lands_againZ G.fly fun g f u => ?_)
    obtain ⟨o2, y1, y2, _, I2⟩ := (G.to f u).inS
    refine store_ok (X := X.suite a ((a, o2) :: (X.pn ++ pins))) (v := .ref a) I2 hN C.slot (.inl C.kind) rfl (fun v I3 => ?_) (.inr C.kind)
    have gone : ∀ {τ : L2.St} {G' : Hp} {v' : Shared} {R : Shared → Prop}, Inv (X.suite a ((a, o2) :: (X.pn ++ pins))) [] τ G' v' → (∀ v2, Inv X pins (τ.set c.2.1 none) G' v2 → R v2) → wpAny (model X.prog X.w) X.A (do bindName X.env n .none; unbindBehindTheSuite X.env n q) (fun _ v2 => R v2) X.xe v' :=
      fun k r => gone_ok (k.unsuite G.was.ok) hN C.slot C.kind r
    refine wpAny_mono ((C.run a o2 cls d (X.pn ++ pins) y1 y2).run [] v _ H _ I3 (yes rfl)) (fun fl v' r => ?_) fun _ _ e => e.elim
    match fl, r with
    | .next, ⟨τ, G', k, r⟩ => exact gone k fun v2 k2 => ⟨_, G', k2, r⟩
    | .brk, ⟨τ, G', k, r⟩ => exact gone k fun v2 k2 => ⟨_, G', k2, r⟩
    | .cont, ⟨τ, G', k, r⟩ => exact gone k fun v2 k2 => ⟨_, G', k2, r⟩
    | .ret _, ⟨y, τ, G', k, rl, r⟩ => exact gone k fun v2 k2 => ⟨y, _, G', k2, rl, r⟩
theorem gnd_all {Wout : WX} (hN : X.N.Nodup) (tk : Takes X Wout) (G : Gnd X pins a cls d σ H B t0 t) : ∀ {hds : List ExceptHandler} {l : List Clause}, HdsA X hds l → wManyA X.K Wout D l cls d σ H → wpAny (model X.prog X.w) X.A (handleBy (.ref a) X.env hds) (SP X pins D) X.xe t
  | _, _, .nil, w => gnd_out tk G w
  | _, _, .cons ok r, ⟨_, m, yes, no⟩ => gnd_as hN ok G m (fun e => yes e a G.new) fun e => gnd_all hN tk G r (no e)
theorem ps_try_manyA {body : List Stmt} {h₀ : ExceptHandler} {hds : List ExceptHandler} {l : List Clause} {pos : Pos} {tb : WX → TS} {Wout : WX} (own : X.stack = X.env :: X.outer) (frm : X.env.frame = some X.env.locals) (hN : X.N.Nodup) (tk : Takes X Wout)
    (bd : ∀ (W : WX) (pn : List (Addr × Obj)) (xe : Value → Shared → Prop), Takes (X.tr pn xe) W → PSs (X.tr pn xe) body (tb W)) (cl : HdsA X (h₀ :: hds) l) : PS X (.Try body (h₀ :: hds) [] [] pos) (fun D σ H => tb (wManyA X.K Wout D l) D σ H) := by
  refine ⟨fun ps s σ0 H0 D I h => wpAny_Try_except (wpAny_mono ((bd _ (X.pn ++ ps) _ ?_).run [] s σ0 H0 D (I.toTry _) h) (fun fl v r => ?_) fun _ _ e => e)⟩
  · rintro u v ⟨a, B, t0, _, σ, H, cls, d, rfl, J, low, up, sky, new, io, gen, w⟩
    have fr : X.A.frames = some (X.env :: X.outer) := I.ok.frames.trans (congrArg some own)
    refine Sky.land (Z := Zc cls d) Zc.steady fr frm (B := B) (own ▸ sky) fun g f u => ?_
    exact gnd_all hN tk (show Gnd X ps a cls d σ H B t0 { v with heap := g } from ⟨own, frm, J.ofTry I.ok, low, up.trans u, new, io, gen, f⟩) cl w
  · match fl, r with
    | .next, ⟨τ, G', k, r⟩ => exact wpAny_execs_nil ⟨τ, G', k.ofTry I.ok, r⟩
    | .brk, ⟨τ, G', k, r⟩ => exact ⟨τ, G', k.ofTry I.ok, r⟩
    | .cont, ⟨τ, G', k, r⟩ => exact ⟨τ, G', k.ofTry I.ok, r⟩
    | .ret _, ⟨y, τ, G', k, rl, r⟩ => exact ⟨y, τ, G', k.ofTry I.ok, rl, r⟩
end
end NC
namespace NC
open PySem PySem.Spec PyProof.Rows L2
theorem un_join {fs gs : List Addr} {H0 H1 H2 : Hp} {h0 h1 h2 : Heap} (a : Un fs [] H0 H1 h0 h1) (b : Un gs [] H1 H2 h1 h2) (y : ∀ c ∈ gs, c ∈ fs ∨ h0.get? c = none) : Un fs [] H0 H2 h0 h2 where
  keep := fun c o g n nf nx => b.keep c o (a.keep c o g n nf nx) (a.free c o g n nx) (fun m => (y c m).elim nf fun z => by rw [g] at z; cases z) nx
  slot := fun c o g n mf nx => by
    obtain ⟨_, g1⟩ := a.slot c o g n mf nx
    obtain ⟨sl, g2⟩ := b.any g1 (a.free c o g n nx) nx
    exact ⟨sl, g2⟩
  free := fun c o g n nx => let ⟨o1, g1⟩ := a.there c o g nx; b.free c o1 g1 (a.free c o g n nx) nx
  there := fun c o g nx => let ⟨o1, g1⟩ := a.there c o g nx; b.there c o1 g1 nx
  tups := fun c xs g => b.tups c xs (a.tups c xs g)
  frzs := fun c o u g => b.frzs c o u (a.frzs c o u g)
  tbls := fun c ps g => by
    obtain ⟨m, g1⟩ := a.tbls c ps g
    obtain ⟨m', g2⟩ := b.tbls c _ g1
    exact ⟨m ++ m', g2.trans (by rw [Array.append_assoc])⟩
/-- f, called with nothing, does tl as long as J; fs H0 h0: the frames and the heaps that this was said of -/
structure Acts (P : Program) (w : World) (K : PySem.W.Frag) (mg : Str → Option Value) (B : Heap) (k : Nat) (f : Addr) (J : Hp → Prop) (fs : List Addr) (H0 : Hp) (h0 : Heap) (tl : XK → Hp → VK → Prop) : Prop where
  obj : ∀ (G : Hp) (s : Shared), Un fs [] H0 G h0 s.heap → HOk P w G s.heap → J G → PySem.W.FnAt f s.heap
  run : ∀ (A : Around) (out : List Env) (s : Shared) (G : Hp) (Q : VK) (E : XK), Room (k + 1) A → Env0 P w K mg B A out s G → Un fs [] H0 G h0 s.heap → J G → tl E G Q →
    codeAny (model P w) A (.call (.ref f) ⟨[], []⟩) (CR (L2.CX P w) out P w G s Q E) s
section
variable {P : Program} {w : World} {K : PySem.W.Frag} {mg : Str → Option Value} {B : Heap} {k j : Nat} {f g : Addr} {J : Hp → Prop} {fs gs : List Addr} {H0 H1 : Hp} {h0 h1 : Heap} {tl : XK → Hp → VK → Prop}
theorem Acts.move (a : Acts P w K mg B k f J fs H0 h0 tl) (u : Un fs [] H0 H1 h0 h1) (y : ∀ c ∈ gs, c ∈ fs ∨ h0.get? c = none) : Acts P w K mg B k f J gs H1 h1 tl :=
  ⟨fun G s v => a.obj G s (un_join u v y), fun A out s G Q E r e v => a.run A out s G Q E r e (un_join u v y)⟩
theorem Acts.mono {i : Nat} (a : Acts P w K mg B k f J fs H0 h0 tl) (l : k ≤ i) : Acts P w K mg B i f J fs H0 h0 tl := ⟨a.obj, fun A out s G Q E r => a.run A out s G Q E (r.mono (by omega))⟩
/-- from a def's beginning to where it stands -/
theorem Acts.here {Z : Cx} {pins : List (Addr × Obj)} {σ : L2.St} {H : Hp} {s : Shared} (I : Inv Z pins σ H s) (ex : Z.ex = []) (a : Acts Z.prog Z.w Z.K Z.mg Z.base k f J Z.fs Z.H_0 Z.s_0.heap tl) : Acts Z.prog Z.w Z.K Z.mg Z.base k f J (frs Z.stack) H s.heap tl :=
  a.move (ex ▸ I.base) fun c m => (List.mem_cons.mp (I.stkSub c m)).elim (fun e => .inr (by rw [e]; exact Heap.get?_none_of_le I.ok.above)) .inl
/-- the def at g, handed an f that does tl, does what sp says -/
def Uses (P : Program) (w : World) (K : PySem.W.Frag) (mg : Str → Option Value) (B : Heap) (k j : Nat) (g : Addr) (fd : FuncData) (ps : List Str) (sp : Addr → (XK → Hp → VK → Prop) → List V → Hp → VK → Prop) : Prop :=
  ∀ (A : Around) (out : List Env) (s : Shared) (H : Hp) (args : Args) (us : List Value) (vs : List V) (Q : VK) (f : Addr) (J : Hp → Prop) (tl : XK → Hp → VK → Prop), Room j A → Env0 P w K mg B A out s H → BindsTo s fd args (ps.zip us) → Vals vs us → vs.length = ps.length →
    Acts P w K mg B k f J (frs out) H s.heap tl → J H → sp f tl vs H Q → codeAny (model P w) A (.call (.ref g) args) (CR C8.CX0 out P w H s Q C8.E0) s
variable {fd : FuncData} {ps : List Str} {sp : Addr → (XK → Hp → VK → Prop) → List V → Hp → VK → Prop}
theorem uses_of {x qual : Str} {st : Stmt} {N : List Str} (F : Fun K x qual st g fd) (S : FnScope N ps (defScope st))
    (body : ∀ (cdv : Value) (A : Around) (out : List Env) (s : Shared) (H : Hp) (vs : List V) (Q : VK) (f : Addr) (J : Hp → Prop) (tl : XK → Hp → VK → Prop), Room j (A.deeper (envOfC qual (defScope st) s.heap.objs.size g cdv)) → Acts P w K mg B k f J (frs out) H s.heap tl → J H → sp f tl vs H Q →
      ∃ t, PSs (cxOf C8.CX0 P w K mg B N qual (defScope st) g cdv A out s H C8.E0).nox (defBody st) t ∧ t { nx := fun _ G => Q .non G, rt := Q } (L2.start N vs) H) : Uses P w K mg B k (j + 1) g fd ps sp := by
  obtain ⟨oc, od, kV, doc, pm, an, cd, ct, osl, rfl, lk, cc⟩ := F.ex
  intro A out s H args us vs Q f J tl r e0 b v l a jH h
  refine LamX.run_ofS (N := N) (us := us) lk cc S r e0 b v l fun r2 => ?_
  obtain ⟨t, d, q⟩ := body cd A out s H vs Q f J tl r2 a jH h
  exact ⟨t, d.nox, q⟩
end
section
variable {Z : Cx} {k j i : Nat} {f g : Addr} {J : Hp → Prop} {tl : XK → Hp → VK → Prop} {fd : FuncData} {ps : List Str} {sp : Addr → (XK → Hp → VK → Prop) → List V → Hp → VK → Prop} {x y : Str} {p p2 pos : Pos} {e : Expr} {es : List Expr} {t : TA} {E : XK}
theorem end_of {CX : CXT} {pins : List (Addr × Obj)} {σ : L2.St} {H : Hp} {s s' : Shared} {Q : VK} {r : Result} (I : Inv Z pins σ H s) (px : Passes CX Z E) (h : CR CX Z.stack Z.prog Z.w H s Q E r s') : wants (EP Z pins σ Q) Z.xe r s' := by
  match r, h with
  | .ok (.ret _), h => exact I.after h
  | .error _, h => exact px _ _ _ _ _ _ I h
/-- y(), y holding such an f -/
theorem pe_thunk (a : Acts Z.prog Z.w Z.K Z.mg Z.base k f J Z.fs Z.H_0 Z.s_0.heap tl) (ex : Z.ex = []) (px : Passes (L2.CX Z.prog Z.w) Z E) (r : Room (k + 1) Z.A) (at_ : PE Z (.Name y p) (tVar i)) :
    PE Z (.Call (.Name y p) [] [] p2) (fun σ H Q => σ[i]? = some (some (.ref f)) ∧ J H ∧ tl E H Q) := ⟨fun pins s σ H Q I ⟨sv, jH, h⟩ => by
  refine wpAny_Call_Name_kw (thn (at_.run pins s σ H (fun v G => v = .ref f ∧ J G ∧ tl E G Q) I ⟨_, sv, rfl, jH, h⟩) ?_)
  rintro u s1 ⟨v, G, I1, rv, rfl, jG, hG⟩
  obtain rfl : u = Value.ref f := rv
  have un : Un Z.fs [] Z.H_0 G Z.s_0.heap s1.heap := ex ▸ I1.base
  exact PySem.W.callWith_F0 (a.obj G s1 un I1.hok jG) (wpAny_call (codeAny_mono (a.run _ _ _ _ Q E r I1.env0 un jG hG) fun _ _ q => end_of I1 px q))⟩
end
section
variable {X : Cx} {pins : List (Addr × Obj)} {σ : L2.St} {H : Hp} {s : Shared} {params : Arguments} {body : Expr} {scope : Scope} {f c' : Addr} {pm ctv : Value} {k : Nat} {t : XK → TE}
theorem acts_lam (I : Inv X pins σ H s) (L : LamX.LamS X.env.scope scope) (hf : s.heap.get? f = some (PySem.W.kla_obj "<lambda>" (X.env.qual ++ "<lambda>") params body scope (cloFrom X.env.cells scope.names []) pm c' ctv)) (nf : H f = none) (off : f ∉ frs X.stack)
    (nb : bindArgs (PySem.W.kla_fn "<lambda>" (X.env.qual ++ "<lambda>") params body scope (cloFrom X.env.cells scope.names []) pm (.ref c') ctv) ⟨[], []⟩ = pure [])
    (pb : ∀ (A : Around) (out : List Env) (s : Shared) (H : Hp) (E : XK), Room k (A.deeper (LamX.lamEnv X scope s.heap.objs.size f c')) → PE (LamX.lamCx X A out s H E scope f c') body (t E)) :
    Acts X.prog X.w X.K X.mg X.base k f (fun G => G c' = some (LamX.CodeO c' (X.env.qual ++ "<lambda>"))) (frs X.stack) H s.heap (fun E G Q => t E σ G Q) := by
  have stays : ∀ {G : Hp} {h : Heap}, Un (frs X.stack) [] H G s.heap h → h.get? f = _ := fun u => u.keep f _ hf nf off nofun
  refine ⟨fun G v u _ _ => ⟨_, _, _, _, stays u⟩, fun A out v G Q E r e0 u jG h => ?_⟩
  obtain ⟨⟨co, fl, tk, c1, c2, c3⟩, _⟩ := e0.hok c' _ jG
  refine PySem.W.kla_callFunE r.depth (stays u) rfl L.co L.gen rfl ⟨c', co, fl, tk, rfl, c1, c2, c3⟩ ?_
  rw [nb]
  have lim : v.heap.NoLimit := e0.mod.nolimit.keeps fun b o z => (e0.bs b o z).1
  refine wpAny_pure (wpAny_newFunctionEnv (fun y m => (L.own y m).2) nofun (fun h1 ns sb => ⟨lim.fresh _ sb, ?_⟩) L.kind)
  have old : ∀ b o, v.heap.get? b = some o → h1.get? b = some o := fun b o z => sb.extBut b o (Nat.ne_of_lt (Heap.lt_size z)) (Heap.get?_push_of_some _ z)
  have V := LamX.lam_start2 (E := E) (f := f) (c' := c') (tk := v.toks + ([] : List (Str × Value)).length) I L e0 r.hd u ns old
  refine PySem.W.kla_codeExpr (wpAny_mono ((pb A out v G E (r.deeper _)).run [] _ σ G Q V h) ?_ fun _ _ z => z)
  rintro u2 v2 ⟨y, G2, V2, ry, qy⟩
  exact ⟨y, G2, V2.os, V2.bare, V2.base, V2.hok, ry, qy⟩
end
section
variable {X : Cx} {T : List (Addr × Str)} {c P g : Addr} {params : Arguments} {body : Expr} {scope : Scope} {k j : Nat} {t : XK → TE} {es : List Expr} {vs0 : List V} {fd : FuncData} {ps : List Str} {sp : Addr → (XK → Hp → VK → Prop) → List V → Hp → VK → Prop} {x : Str} {p lpos pos : Pos}
def tLamU (T : List (Addr × Str)) (sp : Addr → (XK → Hp → VK → Prop) → List V → Hp → VK → Prop) (vs0 : List V) (t : XK → TE) : TE := fun σ H Q => LamX.Tabs T H ∧ ∀ f H1, LamX.ExtN H H1 → LamX.Tabs T H1 → sp f (fun E G R => t E σ G R) (.ref f :: vs0) H1 Q
/-- x(lambda: body, constants ..) -/
theorem pe_lamU (U : Uses X.prog X.w X.K X.mg X.base k j g fd ps sp) (r : Room j X.A) (gl : Gl X x) (hm : X.mg x = some (.ref g)) (kp : PySem.W.keepIn X.K (.ref g) = true) (b : Binds X.K fd ps []) (ln : vs0.length + 1 = ps.length) (ha : PA X es (fun _ H Q => Q vs0 H))
    (TB : LamX.TabB X.base X.mg c P) (hc : X.env.code = .ref c) (hT : (P, X.env.qual ++ "<lambda>") ∈ T) (hu : ∀ p ∈ T, p.1 = P → p.2 = X.env.qual ++ "<lambda>") (L : LamX.LamS X.env.scope scope) (nd : defaultsOf params X.env = ([], []))
    (nb : ∀ (q : Str) (cl : List (Str × Addr)) (pm cv ctv : Value), bindArgs (PySem.W.kla_fn "<lambda>" q params body scope cl pm cv ctv) ⟨[], []⟩ = pure [])
    (pb : ∀ (A : Around) (out : List Env) (s : Shared) (H : Hp) (E : XK) (f c' : Addr), Room k (A.deeper (LamX.lamEnv X scope s.heap.objs.size f c')) → PE (LamX.lamCx X A out s H E scope f c') body (t E)) (ex : X.ex = [])
    (db : (x == ("__debug__" : Str)) = false := by decide) (h1 : starEach (.Lambda params body scope lpos :: es) X.env = (false, eval (.Lambda params body scope lpos) X.env) :: starEach es X.env := by rfl) (h2 : (backTo pos (starEach es X.env)).any (·.1) = false := by rfl) :
    PE X (.Call (.Name x p) (.Lambda params body scope lpos :: es) [] pos) (tLamU T sp vs0 t) := ⟨fun pins s σ H Q I ⟨tb, h⟩ => by
  refine wpAny_Call_Name_kw (ld_glob I gl hm (PySem.W.callWith_K (h₀ := X.base) I.mod.kin kp ?_ h1 h2) db)
  rw [h1]
  refine Calls.spliced_cons (LamX.lam_make2 I TB hc hT hu tb nd (L.has I.ok) fun f c' pm ctv H1 s1 I1 eN T1 hf nf off jc => ?_)
  have offs : f ∉ X.fs := fun z => off (I1.ok.stk.elim (fun e => e ▸ z) fun e => by
    rw [e.1]
    exact let ⟨v, m, q⟩ := List.mem_filterMap.mp z; List.mem_filterMap.mpr ⟨v, .tail _ m, q⟩)
  have nl : f ≠ X.env.locals := fun z => by
    obtain ⟨m, ⟨o, es, ep, ho, hd, _⟩, _⟩ := I1.loc
    rw [← z, hf] at ho
    cases ho
    cases hd
  have I2 : Inv X ((f, _) :: pins) σ H1 s1 := I1.pins_of fun q m => (List.mem_cons.mp m).elim (fun e => by rw [e]; exact ⟨hf, nf, nl, offs, nofun⟩) fun m2 => I1.pin q (List.mem_append_right _ m2)
  refine thn (ha.run pos _ s1 σ H1 (fun vs G => vs = vs0 ∧ G = H1) I2 ⟨rfl, rfl⟩) ?_
  rintro us s2 ⟨vs, G, I3, v, rfl, rfl⟩
  obtain ⟨hf3, _⟩ := I3.pin (f, _) (List.mem_append_right _ (.head _))
  have I4 : Inv X pins σ G s2 := I3.pins_of fun q m => I3.pin q (List.mem_append_right _ (.tail _ m))
  have l2 : (Value.ref f :: us).length = ps.length := by rw [List.length_cons, ← v.length]; exact ln
  have bt : BindsTo s2 fd ⟨.ref f :: us, []⟩ (ps.zip (.ref f :: us)) := by
    have z := b s2 (.ref f :: us) I4.kIn (by rw [List.append_nil]; exact l2)
    rw [List.append_nil] at z
    exact z
  have a := acts_lam (k := k) (t := t) I4 L hf3 nf off (nb _ _ _ _ _) fun A out s H E => pb A out s H E f c'
  exact ⟨I4.kIn, wpAny_call (codeAny_mono (U _ _ _ _ _ (.ref f :: us) (.ref f :: vs) Q f _ _ r I4.env0 bt (.cons rfl v) ln a jc (h f G eN T1)) fun _ _ q => end_of (CX := C8.CX0) (E := C8.E0) I4 (fun _ _ _ _ _ _ _ z => z.elim) q)⟩⟩
end
end NC
namespace NC
open PySem PySem.Spec PyProof.Rows L2
abbrev sChkRow : Stmt := topS 24
theorem scChkRow : FnScope ["tree"] ["tree"] (defScope sChkRow) := ⟨rfl, rfl, rfl, by decide +kernel, rfl, by decide +kernel, by decide +kernel⟩
theorem plain_ok (x : Str) (s : List Nat) (hx : PyData.strOk x = true) (hl : x.length ≤ 5000) (h : ∀ c ∈ s, c ∈ ltN) (hs : s.length ≤ 12) (n : Nat) : (PyData.tuple [.str x, .str (tx s)]).canLay0 = true ∧ (PyData.tuple [.str x, .str (tx s)]).depth ≤ 1 + 3 * n ∧ lnD (.tuple [.str x, .str (tx s)]) = true := by
  have hk : PyData.strOk (tx s) = true := by
    refine strOk_of (okS_tx fun c hc => ?_)
    have := (ltN_iff c).mp (h c hc)
    omega
  refine ⟨?_, ?_, ?_⟩
  · simp only [PyData.canLay0, PyData.canLayAll0, hx, hk]
    rfl
  · simp only [PyData.depth, PyData.depthAll]
    omega
  · simp only [lnD, lnA, Bool.and_true, Bool.and_eq_true, decide_eq_true_eq, tx_len]
    exact ⟨by show 2 ≤ 5000; decide, hl, by omega⟩
mutual
theorem encS_ok : ∀ (s : Stp) (n : Nat), wfS s = true → dpS s ≤ n → szS s ≤ 5000 → (encS s).canLay0 = true ∧ (encS s).depth ≤ 1 + 3 * n ∧ lnD (encS s) = true
  | .call s, n, w, dp, sz => by
    rw [wfS, Bool.and_eq_true, decide_eq_true_eq] at w
    exact plain_ok "call" s (by decide +kernel) (by decide +kernel) (all_dec.mp w.2) w.1 n
  | .turn s, n, w, dp, sz => by
    rw [wfS, Bool.and_eq_true, Bool.and_eq_true, decide_eq_true_eq, decide_eq_true_eq] at w
    exact plain_ok "turn" s (by decide +kernel) (by decide +kernel) (all_dec.mp w.2) w.1.2 n
  | .row s, n, w, dp, sz => by
    rw [wfS, Bool.and_eq_true, Bool.and_eq_true, decide_eq_true_eq, decide_eq_true_eq] at w
    exact plain_ok "row" s (by decide +kernel) (by decide +kernel) (fun c hc => by
      have := (smN_iff c).mp (all_dec.mp w.2 c hc)
      exact (ltN_iff c).mpr (.inl this)) (by omega) n
  | .times m r, n, w, dp, sz => by
    rw [wfS, Bool.and_eq_true] at w
    rw [dpS] at dp
    rw [szS] at sz
    obtain ⟨a, b, c⟩ := encL_ok r (n - 1) w.2 (by omega) (by omega)
    have l := szR_len r
    rw [encS]
    refine ⟨?_, ?_, ?_⟩
    · simp only [PyData.canLay0, PyData.canLayAll0, a, Bool.and_true, Bool.true_and, Bool.and_eq_true]
      exact ⟨by decide +kernel, by decide +kernel⟩
    · simp only [PyData.depth, PyData.depthAll]
      omega
    · simp only [lnD, lnA, c, Bool.and_true, Bool.true_and, Bool.and_eq_true, decide_eq_true_eq]
      refine ⟨by show 3 ≤ 5000; decide, by decide +kernel, by show 2 ≤ 5000; decide, by decide +kernel, ?_⟩
      rw [encL_len]
      omega
theorem encL_ok : ∀ (r : List Stp) (n : Nat), wfR r = true → dpR r ≤ n → szR r ≤ 5000 → PyData.canLayAll0 (encL r) = true ∧ PyData.depthAll (encL r) ≤ 1 + 3 * n ∧ lnA (encL r) = true
  | [], n, w, dp, sz => by
    rw [encL]
    exact ⟨rfl, Nat.zero_le _, by rw [lnA]⟩
  | s :: r, n, w, dp, sz => by
    rw [wfR, Bool.and_eq_true] at w
    rw [dpR] at dp
    rw [szR] at sz
    obtain ⟨a, b, c⟩ := encS_ok s n w.1 (by omega) (by omega)
    obtain ⟨a2, b2, c2⟩ := encL_ok r n w.2 (by omega) (by omega)
    rw [encL]
    refine ⟨?_, ?_, ?_⟩
    · rw [PyData.canLayAll0, a, a2]; rfl
    · rw [PyData.depthAll]; omega
    · rw [lnA, c, c2]; rfl
end
theorem encR_ok {r : List Stp} (w : wfR r = true) (dp : dpR r ≤ 20) (sz : szR r ≤ 5000) : TrOk (encR r) := by
  obtain ⟨a, b, c⟩ := encL_ok r 20 w dp sz
  have l := szR_len r
  refine ⟨?_, ?_⟩
  · unfold SeqAt.shaped
    rw [show (encR r).canLay0 = true by
      unfold encR
      simp only [PyData.canLay0, PyData.canLayAll0, a, Bool.and_true]
      decide +kernel, decide_eq_true (by
      unfold encR
      simp only [PyData.depth, PyData.depthAll]
      omega)]
    rfl
  · unfold encR
    simp only [lnD, lnA, c, Bool.and_true, Bool.and_eq_true, decide_eq_true_eq]
    refine ⟨by show 2 ≤ 5000; decide, by decide +kernel, ?_⟩
    rw [encL_len]
    omega
section
variable {P : Program} {w : World} {K : PySem.W.Frag} {mg : Str → Option Value} {base : Heap} {f_w f_n f_nu f_tu f_pl f_gh f_ls f_lb f_ir f_cr : Addr} {d_w d_n d_nu d_tu d_pl d_gh d_ls d_lb d_ir d_cr : FuncData}
def spChkRow (K : PySem.W.Frag) : Sp := fun vs H Q _ => ∃ v r, vs = [v] ∧ Dp K H v (encR r) ∧ wfR r = true ∧ dpR r ≤ 12 ∧ szR r ≤ 60 ∧ ∀ H', Same H H' → Q .non H'
theorem ok_cr {k : Nat} (W : RowD K mg f_w f_n f_nu f_tu f_pl f_gh f_ls f_lb f_ir d_w d_n d_nu d_tu d_pl d_gh d_ls d_lb d_ir) (Y : DF K mg "check_row" sChkRow ["tree"] f_cr d_cr) : FnOk P w K mg base CX0 (k + 32) f_cr d_cr ["tree"] (spChkRow K) := by
  have GI : FnOk P w K mg base CX0 (k + 31) f_ir d_ir ["tree"] (spIsRow K) := ok_ir W
  refine Y.F.ok scChkRow (fun vs H Q E h => ?_) (fun cdv A outer st H vs Q E hr h => ?_)
  · obtain ⟨v, r, rfl, _⟩ := h
    rfl
  · obtain ⟨v, r, rfl, hd, hw, hdp, hs, q⟩ := h
    refine ⟨_, (pss_one (ps_if (pt_not (pt_val (pe_call GI hr rfl W.ir.g W.ir.F.kp W.ir.b .nil pass0 (pa_cons (pv 0) pa_nil))))
        (pss_one ps_dead)
        pss_nil)), ?_⟩
    refine ⟨_, rfl, v, _, rfl, hd, encR_ok hw (by omega) (by omega), fun H' s => ⟨_, rfl, ?_⟩⟩
    rw [(row_iff _).mpr ⟨r, rfl, hw, hdp, hs⟩]
    exact iteF (q H' s)
end
end NC
namespace NC
open PySem PySem.Spec PyProof.Rows L2
section
variable {α β : Type}
def envF (O : Ops α) (bk : List Nat → Option (List Stp)) : Nat → List Nat → Option α
  | 0, _ => none
  | d + 1, n => (bk n).bind fun r => (evR O (envF O bk d) r O.w0).map fun w => O.rp w 1
def envOf (O : Ops α) (bk : List Nat → Option (List Stp)) (dn : List Nat → Nat) (n : List Nat) : Option α := envF O bk (dn n + 1) n
mutual
theorem evS_congr (O : Ops α) (dn : List Nat → Nat) {e1 e2 : List Nat → Option α} {d : Nat} (h : ∀ n, dn n + 1 ≤ d → e1 n = e2 n) : ∀ s : Stp, mdS dn s ≤ d → evS O e1 s = evS O e2 s
  | .call _, _ => by rw [evS, evS]
  | .turn _, _ => by rw [evS, evS]
  | .row n, hd => by rw [mdS] at hd; rw [evS, evS]; exact h n hd
  | .times m r, hd => by rw [mdS] at hd; rw [evS, evS, evR_congr O dn h r (by omega) O.w0]
theorem evR_congr (O : Ops α) (dn : List Nat → Nat) {e1 e2 : List Nat → Option α} {d : Nat} (h : ∀ n, dn n + 1 ≤ d → e1 n = e2 n) : ∀ r : List Stp, mdR dn r ≤ d → ∀ a, evR O e1 r a = evR O e2 r a
  | [], _, a => by rw [evR, evR]
  | s :: r, hd, a => by
    rw [mdR] at hd
    rw [evR, evR, evS_congr O dn h s (by omega)]
    congr 1
    funext x
    congr 1
    funext b
    exact evR_congr O dn h r (by omega) b
end
theorem envF_eq (O : Ops α) {bk : List Nat → Option (List Stp)} {dn : List Nat → Nat} (md : ∀ n r, bk n = some r → mdR dn r ≤ dn n) : ∀ (d : Nat) (n : List Nat), dn n + 1 ≤ d → envF O bk d n = envOf O bk dn n := by
  intro d
  induction d using Nat.strongRecOn with
  | _ d IH =>
    intro n hd
    cases d with
    | zero => omega
    | succ d =>
      unfold envOf
      rw [envF, envF]
      cases e : bk n with
      | none => rfl
      | some r =>
        have := md n r e
        show (evR O (envF O bk d) r O.w0).map _ = (evR O (envF O bk (dn n)) r O.w0).map _
        rw [evR_congr O dn (d := dn n) (e1 := envF O bk d) (e2 := envF O bk (dn n)) (fun m hm => by
          rw [IH d (by omega) m (by omega)]
          by_cases z : dn n < d + 1
          · exact (IH (dn n) (by omega) m (by omega)).symm
          · have : dn n = d := by omega
            omega) r this]
theorem bkOk_of (O : Ops α) {bk : List Nat → Option (List Stp)} {dn : List Nat → Nat} (md : ∀ n r, bk n = some r → mdR dn r ≤ dn n) (ok : ∀ n r, bk n = some r → inR bk r) : BkOk O bk (envOf O bk dn) dn where
  md := md
  ok := ok
  ev := fun n r h => by
    unfold envOf
    rw [envF, h]
    show (evR O (envF O bk (dn n)) r O.w0).map _ = _
    rw [evR_congr O dn (d := dn n) (e2 := envOf O bk dn) (fun m hm => envF_eq O md (dn n) m hm) r (md n r h)]
    rfl
structure Sim (A : Ops α) (B : Ops β) (R : α → β → Prop) : Prop where
  w0 : R A.w0 B.w0
  oS : ∀ s, R (A.oS s) (B.oS s)
  jn : ∀ a b a' b' c, R a b → R a' b' → A.jn a a' = some c → ∃ d, B.jn b b' = some d ∧ R c d
  rp : ∀ a b n, R a b → R (A.rp a n) (B.rp b n)
mutual
theorem simS {A : Ops α} {B : Ops β} {R : α → β → Prop} (S : Sim A B R) {eA : List Nat → Option α} {eB : List Nat → Option β} (h : ∀ n x, eA n = some x → ∃ y, eB n = some y ∧ R x y) : ∀ (s : Stp) (x : α), evS A eA s = some x → ∃ y, evS B eB s = some y ∧ R x y
  | .call t, x, e => by rw [evS] at e; cases e; exact ⟨_, by rw [evS], S.oS _⟩
  | .turn t, x, e => by rw [evS] at e; cases e; exact ⟨_, by rw [evS], S.oS _⟩
  | .row n, x, e => by rw [evS] at e; rw [evS]; exact h n x e
  | .times m r, x, e => by
    rw [evS] at e
    obtain ⟨w, hw, rfl⟩ := Option.map_eq_some_iff.mp e
    obtain ⟨y, hy, hR⟩ := simR S h r _ _ _ S.w0 hw
    exact ⟨_, by rw [evS, hy]; rfl, S.rp _ _ _ hR⟩
theorem simR {A : Ops α} {B : Ops β} {R : α → β → Prop} (S : Sim A B R) {eA : List Nat → Option α} {eB : List Nat → Option β} (h : ∀ n x, eA n = some x → ∃ y, eB n = some y ∧ R x y) : ∀ (r : List Stp) (a x : α) (b : β), R a b → evR A eA r a = some x → ∃ y, evR B eB r b = some y ∧ R x y
  | [], a, x, b, hR, e => by rw [evR] at e; cases e; exact ⟨b, by rw [evR], hR⟩
  | s :: r, a, x, b, hR, e => by
    rw [evR] at e
    obtain ⟨v, hv, e⟩ := Option.bind_eq_some_iff.mp e
    obtain ⟨c, hc, e⟩ := Option.bind_eq_some_iff.mp e
    obtain ⟨v', hv', R1⟩ := simS S h s v hv
    obtain ⟨d, hd, R2⟩ := S.jn _ _ _ _ _ hR R1 hc
    obtain ⟨y, hy, R3⟩ := simR S h r _ _ _ R2 e
    exact ⟨y, by rw [evR, hv', Option.bind_some, hd, Option.bind_some]; exact hy, R3⟩
end
theorem sim_env {A : Ops α} {B : Ops β} {R : α → β → Prop} (S : Sim A B R) (bk : List Nat → Option (List Stp)) : ∀ (d : Nat) (n : List Nat) (x : α), envF A bk d n = some x → ∃ y, envF B bk d n = some y ∧ R x y
  | 0, n, x, e => by rw [envF] at e; cases e
  | d + 1, n, x, e => by
    rw [envF] at e
    obtain ⟨r, hr, e⟩ := Option.bind_eq_some_iff.mp e
    obtain ⟨w, hw, rfl⟩ := Option.map_eq_some_iff.mp e
    obtain ⟨y, hy, hR⟩ := simR S (sim_env S bk d) r _ _ _ S.w0 hw
    exact ⟨_, by rw [envF, hr, Option.bind_some, hy]; rfl, S.rp _ _ _ hR⟩
end
def opsN : Ops Nat := ⟨0, fun _ => 1, fun a b => if 10 ^ 60 < a + b then none else some (a + b), fun a n => a * n⟩
def opsL (most : Nat) : Ops (List Stp) := ⟨[], fun s => [s], fun a b => some ((a ++ b).take most), fun a n => if a = [] then [] else (List.replicate (min n (most / a.length)) a).flatten⟩
theorem flat_len {α : Type} (n : Nat) (a : List α) : (List.replicate n a).flatten.length = n * a.length := by
  induction n with
  | zero => simp
  | succ n ih => rw [List.replicate_succ, List.flatten_cons, List.length_append, ih, Nat.succ_mul, Nat.add_comm]
theorem simNL (most : Nat) (h1 : 1 ≤ most ∨ True) : Sim opsN (opsL most) (fun n l => n ≤ most → l.length = n) where
  w0 := fun _ => rfl
  oS := fun s _ => rfl
  jn := fun a b a' b' c hR hR' e => by
    refine ⟨_, rfl, fun hc => ?_⟩
    have e : (if 10 ^ 60 < a + a' then none else some (a + a')) = some c := e
    split at e
    · cases e
    · cases e
      rw [List.length_take, List.length_append, hR (by omega), hR' (by omega)]
      exact Nat.min_eq_right hc
  rp := fun a b n hR hc => by
    have hc : a * n ≤ most := hc
    show (if b = [] then [] else _).length = a * n
    by_cases n0 : n = 0
    · subst n0
      rw [Nat.mul_zero]
      split
      · rfl
      · rw [Nat.zero_min]; rfl
    · have ha : a ≤ most := Nat.le_trans (Nat.le_mul_of_pos_right a (by omega)) hc
      have hl := hR ha
      split
      · rename_i z
        rw [z] at hl
        have : a = 0 := hl.symm
        rw [this, Nat.zero_mul]; rfl
      · rename_i z
        have lp : 0 < b.length := List.length_pos_iff.mpr z
        rw [flat_len, hl]
        have : n ≤ most / a := (Nat.le_div_iff_mul_le (by omega)).mpr (by rw [Nat.mul_comm]; exact hc)
        rw [Nat.min_eq_left this, Nat.mul_comm]
theorem opsL_rp {most : Nat} {a : List Stp} (n : Nat) (h : a ≠ []) : (opsL most).rp a n = (List.replicate (min n (most / a.length)) a).flatten := by
  show (if a = [] then [] else _) = _
  rw [if_neg h]
theorem opsL_len {most : Nat} (a : List Stp) (n : Nat) : ((opsL most).rp a n).length ≤ most := by
  show (if a = [] then [] else _).length ≤ _
  split
  · exact Nat.zero_le _
  · rw [flat_len]
    exact Nat.le_trans (Nat.mul_le_mul_right _ (Nat.min_le_right _ _)) (Nat.div_mul_le_self _ _)
end NC
namespace NC
open PySem PySem.Spec PyProof.Rows L2
structure Mk0 (K : PySem.W.Frag) (C : Addr) : Prop where
  makes : PySem.W.makesIn K C = true
  init : PySem.W.findIn K (.ref C) "__init__" = some (some (.builtin "object.__init__"))
  kp : PySem.W.keepIn K (.ref C) = true
def tMake0 (C : Addr) : TE := fun σ H Q => ∀ x dx, H x = none → H dx = none → dx ≠ x → Q (.ref x) (upd (upd H dx (.own x)) x (.ins C dx []))
section
variable {X : Cx} {C : Addr}
theorem run_make00 {pins : List (Addr × Obj)} {σ : L2.St} {H : Hp} {s : Shared} {Q : VK} (M : Mk0 X.K C) (I : Inv X pins σ H s) (h : tMake0 C σ H Q) :
    wpAny (model X.prog X.w) X.A (call (.ref C) []) (EP X pins σ Q) X.xe s := by
  have hq := h (s.heap.objs.size + 1) s.heap.objs.size (I.hok.fresh (Nat.le_succ _)) (I.hok.fresh (Nat.le_refl _)) (Nat.ne_of_lt (Nat.lt_succ_self _))
  have I2 := Inv.made (C := C) I
  have Y := PySem.W.makes_of (M := model X.prog X.w) I.kIn M.makes
  have ob : ((s.heap.push PySem.W.emptyDict).push (PySem.W.instObj C s.heap.objs.size)).get? (s.heap.objs.size + 1) = some (PySem.W.instObj C s.heap.objs.size) := by
    rw [← Heap.size_push s.heap PySem.W.emptyDict]
    exact Heap.get?_push_size _ rfl
  have t1 : PySem.W.Looks (model X.prog X.w) ((s.heap.push PySem.W.emptyDict).push (PySem.W.instObj C s.heap.objs.size)) (typeOf (.ref (s.heap.objs.size + 1))) (.ref C) :=
    NwA.type_at (o := PySem.W.instObj C s.heap.objs.size) ob rfl
  have t2 : PySem.W.Looks (model X.prog X.w) ((s.heap.push PySem.W.emptyDict).push (PySem.W.instObj C s.heap.objs.size)) (isInstance (.ref (s.heap.objs.size + 1)) (.type "object")) true :=
    t1.andThen (Y.top.keeps fun b o e => Heap.get?_push_of_some _ (Heap.get?_push_of_some _ e))
  refine wpAny_call (make_map0 I.kIn M.makes M.init (fun self => PySem.W.Looks.of_pure (PySem.W.oi_bind self)) ?_)
  refine codeAny_call_builtin PySem.W.oi_plain PySem.W.entry_oi (@PySem.W.check_slot (model X.prog X.w) _ _ _ "object.__init__" "object" "__init__" (.ref (s.heap.objs.size + 1)) [] [] _ PySem.W.oi_kind PySem.W.oi_split t2 (PySem.W.oi_args (.ref (s.heap.objs.size + 1))) ?_)
  rw [PySem.W.oi_run]
  exact wpAny_pure (And.intro rfl (show EP X pins σ Q _ _ from ⟨V.ref (s.heap.objs.size + 1), _, I2, rfl, hq⟩))
theorem pe_make00 {x : Str} {p pos : Pos} (M : Mk0 X.K C) (hg : Gl X x) (hm : X.mg x = some (.ref C))
    (hdb : (x == ("__debug__" : Str)) = false := by decide) : PE X (.Call (.Name x p) [] [] pos) (tMake0 C) := by
  refine ⟨fun pins s σ H Q I h => ?_⟩
  refine wpAny_Call_Name_kw (ld_glob I hg hm ?_ hdb)
  exact PySem.W.callWith_K0 I.kIn M.kp (run_make00 M I h)
end
end NC
namespace NC
open PySem PySem.Spec PyProof.Rows L2
abbrev sHEinit : Stmt := inClass (topS 1) 0
abbrev sTMinit : Stmt := inClass (topS 4) 0
abbrev sMadeOf : Stmt := topS 32
abbrev sMany : Stmt := topS 33
theorem scHE : FnScope ["self", "word"] ["self", "word"] (defScope sHEinit) := ⟨rfl, rfl, rfl, by decide +kernel, rfl, by decide +kernel, by decide +kernel⟩
theorem scTM : FnScope ["self", "most"] ["self", "most"] (defScope sTMinit) := ⟨rfl, rfl, rfl, by decide +kernel, rfl, by decide +kernel, by decide +kernel⟩
theorem scMadeOf : FnScope ["maker", "tree", "book"] ["maker", "tree", "book"] (defScope sMadeOf) := ⟨rfl, rfl, rfl, by decide +kernel, rfl, by decide +kernel, by decide +kernel⟩
theorem scMany : FnScope ["tree", "book"] ["tree", "book"] (defScope sMany) := ⟨rfl, rfl, rfl, by decide +kernel, rfl, by decide +kernel, by decide +kernel⟩
abbrev sCm_no : Stmt := inClass (topS 28) 0
theorem scCm_no : FnScope ["self"] ["self"] (defScope sCm_no) := ⟨rfl, rfl, rfl, by decide +kernel, rfl, by decide +kernel, by decide +kernel⟩
abbrev sCm_of : Stmt := inClass (topS 28) 1
theorem scCm_of : FnScope ["self", "step"] ["self", "step"] (defScope sCm_of) := ⟨rfl, rfl, rfl, by decide +kernel, rfl, by decide +kernel, by decide +kernel⟩
abbrev sCm_jn : Stmt := inClass (topS 28) 2
theorem scCm_jn : FnScope ["self", "ahead", "behind"] ["self", "ahead", "behind"] (defScope sCm_jn) := ⟨rfl, rfl, rfl, by decide +kernel, rfl, by decide +kernel, by decide +kernel⟩
abbrev sCm_rp : Stmt := inClass (topS 28) 3
theorem scCm_rp : FnScope ["self", "once", "many"] ["self", "once", "many"] (defScope sCm_rp) := ⟨rfl, rfl, rfl, by decide +kernel, rfl, by decide +kernel, by decide +kernel⟩
/-- HallError, at C, and its __init__ -/
structure HE (K : PySem.W.Frag) (mg : Str → Option Value) (C f : Addr) (fd : FuncData) : Prop where
  gC : mg "HallError" = some (.ref C)
  rd : ∃ mc, ClX.CRead K C mc ∧ PySem.W.findCls K (.ref C) mc "__init__" = some (.val (.ref f))
  F : Fun K "__init__" "HallError.__init__" sHEinit f fd
  b : Binds K fd ["self", "word"] []
  mV : mg "ValueError" = none
  vV : PySem.W.findCls K (.type "ValueError") (.type "type") "__init__" = some (.val (.builtin "ValueError.__init__"))
section
variable {P : Program} {w : World} {K : PySem.W.Frag} {mg : Str → Option Value} {base : Heap}
def spHE (K : PySem.W.Frag) : Sp := fun vs H Q _ => ∃ a C v, vs = [.ref a, v] ∧ OexC K C ∧ PySem.W.findIn K (.ref C) "word" = some none ∧ H a = some (exo a C none) ∧
  ∀ dx, H dx = none → dx ≠ a → Q .non (upd (upd H dx (exd dx [("word", v)])) a (exo a C (some dx)))
theorem ok_HE {C f : Addr} {fd : FuncData} {k : Nat} (T : HE K mg C f fd) : FnOk P w K mg base CX0 (k + 1) f fd ["self", "word"] (spHE K) := by
  refine T.F.ok scHE (fun vs H Q E h => ?_) (fun cdv A outer s H vs Q E hr h => ?_)
  · obtain ⟨a, C, v, rfl, _⟩ := h
    rfl
  · obtain ⟨a, C, v, rfl, hO, hw, ha, q⟩ := h
    refine ⟨_, pss_cons (ps_expr (pe_veinit (by rfl) T.mV T.vV (pa_cons (pv 0) (pa_cons (pv 1) pa_nil)))) (pss_one (ps_ost (pv 0) (pv 1))), ?_⟩
    refine ⟨_, rfl, _, rfl, a, C, [v], rfl, by show 1 ≤ 1000; decide, hO, ha, ?_⟩
    exact ⟨_, rfl, _, rfl, a, C, rfl, hO, hw, .inl ⟨ha, fun dx n ne => q dx n ne⟩⟩
/-- a refusal of one field beside its word -/
def sp1 (K : PySem.W.Frag) (fld : Str) (word : Str) : Sp := fun vs H Q _ => ∃ a C v, vs = [.ref a, v] ∧ OexC K C ∧ PySem.W.findIn K (.ref C) "word" = some none ∧ PySem.W.findIn K (.ref C) fld = some none ∧ H a = some (exo a C none) ∧
  ∀ dx H', H dx = none → dx ≠ a → (∀ b, b ≠ dx → b ≠ a → H' b = H b) → H' a = some (exo a C (some dx)) → H' dx = some (exd dx [(fld, v), ("word", .str word)]) → Q .non H'
theorem ok_TM {CH fH f : Addr} {fd fdH : FuncData} {k : Nat} (T : HE K mg CH fH fdH) (F : Fun K "__init__" "TooMany.__init__" sTMinit f fd) : FnOk P w K mg base CX0 (k + 2) f fd ["self", "most"] (sp1 K "most" "toomany") := by
  have GH : FnOk P w K mg base CX0 (k + 1) fH fdH ["self", "word"] (spHE K) := ok_HE T
  obtain ⟨mc, rd, fc⟩ := T.rd
  refine F.ok scTM (fun vs H Q E h => ?_) (fun cdv A outer s H vs Q E hr h => ?_)
  · obtain ⟨a, C, v, rfl, _⟩ := h
    rfl
  · obtain ⟨a, C, v, rfl, hO, hw, hf, ha, q⟩ := h
    refine ⟨_, pss_cons (ps_expr (pe_clsfn (by rfl) T.gC rd fc GH hr T.F.kp T.b .nil pass0 (pa_cons (pv 0) (pa_cons pe_str pa_nil)))) (pss_one (ps_ost (pv 0) (pv 1))), ?_⟩
    refine ⟨_, rfl, a, C, _, rfl, hO, hw, ha, fun dx n ne => ?_⟩
    refine ⟨_, rfl, _, rfl, a, C, rfl, hO, hf, .inr ⟨dx, _, upd_same, by rw [upd_ne ne, upd_same], by show 1 ≤ 900; decide, q dx _ n ne (fun b h1 h2 => ?_) ?_ ?_⟩⟩
    · rw [upd_ne h1, upd_ne h2, upd_ne h1]
    · rw [upd_ne (Ne.symm ne), upd_same]
    · rw [upd_same]
end
/-- an own refusal's class, at C, its __init__ at fI -/
structure XC (K : PySem.W.Frag) (mg : Str → Option Value) (x q : Str) (st : Stmt) (fld : Str) (C fI : Addr) (fd : FuncData) : Prop where
  gC : mg x = some (.ref C)
  O : OexC K C
  hw : PySem.W.findIn K (.ref C) "word" = some none
  hf : PySem.W.findIn K (.ref C) fld = some none
  iC : PySem.W.findIn K (.ref C) "__init__" = some (some (.ref fI))
  tI : PySem.W.typeIn K (.ref fI) = some (.type "function")
  F : Fun K "__init__" q st fI fd
  b : Binds K fd ["self", fld] []
theorem mk1 {K : PySem.W.Frag} {C : Addr} {fld word : Str} (hO : OexC K C) (hw : PySem.W.findIn K (.ref C) "word" = some none) (hf : PySem.W.findIn K (.ref C) fld = some none) {H1 : Hp} {v : V} {Q : XK}
    (q : ∀ d H', Same H1 H' → H1 d = none → H' d = some (.xd [(fld, v), ("word", .str word)]) → Q (.ref C) (some d) H') :
    ∀ a, H1 a = none → sp1 K fld word (.ref a :: ([v] ++ [])) (upd H1 a (exo a C none))
      (fun u H2 => u = .non ∧ ∃ (d : Addr) (fs : List (Str × V)), H2 a = some (exo a C (some d)) ∧ H2 d = some (exd d fs) ∧ H1 d = none ∧ Q (.ref C) (some d) (upd (del H2 a) d (.xd fs))) (fun _ _ _ => False) := by
  intro a na
  refine ⟨a, C, v, rfl, hO, hw, hf, upd_same, fun dx H' n1 n2 k e1 e2 => ⟨rfl, dx, _, e1, e2, ?_, q dx _ (fun b o hb => ?_) ?_ upd_same⟩⟩
  · rw [upd_ne n2] at n1
    exact n1
  · have hd : H1 dx = none := by
      rw [upd_ne n2] at n1
      exact n1
    have b1 : b ≠ dx := ne_of_none hb hd
    have b2 : b ≠ a := ne_of_none hb na
    rw [upd_ne b1, del_ne b2, k b b1 b2, upd_ne b2]
    exact hb
  · rw [upd_ne n2] at n1
    exact n1
/-- more than so many -/
def TMr (CT : Addr) (H : Hp) (E : XK) (m : Int) : Prop := ∀ H' d, Same H H' → H d = none → H' d = some (.xd [("most", .int m), ("word", .str "toomany")]) → E (.ref CT) (some d) H'
theorem TMr.same {CT : Addr} {H H1 : Hp} {E : XK} {m : Int} (h : TMr CT H E m) (s : Same H H1) : TMr CT H1 E m := fun H' d s2 n e => h H' d (sm_trans s s2) (L2.Same.free s n) e
def psT : Stp → Prop
  | .times m _ => m ≤ 10 ^ 30
  | _ => True
mutual
theorem alS_wf : ∀ s : Stp, wfS s = true → alS psT s
  | .call _, _ => by rw [alS]; exact trivial
  | .turn _, _ => by rw [alS]; exact trivial
  | .row _, _ => by rw [alS]; exact trivial
  | .times m r, h => by
    rw [wfS, Bool.and_eq_true, decide_eq_true_eq] at h
    rw [alS]
    exact ⟨h.1, alR_wf r h.2⟩
theorem alR_wf : ∀ r : List Stp, wfR r = true → alR psT r
  | [], _ => by rw [alR]; exact trivial
  | s :: r, h => by
    rw [wfR, Bool.and_eq_true] at h
    rw [alR]
    exact ⟨alS_wf s h.1, alR_wf r h.2⟩
end
def BkIn (K : PySem.W.Frag) (H : Hp) (bv : V) (bk : List Nat → Option (List Stp)) : Prop := (bv = .non ∧ bk = fun _ => none) ∨
  ∃ (bo : Addr) (bkvs : List (Key × V)), bv = .ref bo ∧ H bo = some (.dK bkvs) ∧ bkvs.length < sizeLine ∧ ∀ n r, bk n = some r → ∃ v, valV bkvs (kN n) = some v ∧ Dp K H v (encR r) ∧ wfR r = true
theorem BkIn.same {K : PySem.W.Frag} {H H' : Hp} {bv : V} {bk : List Nat → Option (List Stp)} (h : BkIn K H bv bk) (s : Same H H') : BkIn K H' bv bk := by
  rcases h with h | ⟨bo, bkvs, a, b, l, e⟩
  · exact .inl h
  · refine .inr ⟨bo, bkvs, a, s _ _ b, l, fun n r hr => ?_⟩
    obtain ⟨v, h1, h2, h3⟩ := e n r hr
    exact ⟨v, h1, dp_same s h2, h3⟩
/-- the book, as a maker's -/
theorem BkIn.split {K : PySem.W.Frag} {H : Hp} {bv : V} {bk : List Nat → Option (List Stp)} (h : BkIn K H bv bk) {C : Addr → Hp → Prop}
    (q : ∀ (bo : Addr) (bkvs : List (Key × V)) (H1 : Hp), Same H H1 → H1 bo = some (.dK bkvs) → bkvs.length < sizeLine → (∀ n r, bk n = some r → ∃ v, valV bkvs (kN n) = some v ∧ Dp K H1 v (encR r) ∧ alR psT r) → C bo H1) :
    (∃ bo, bv = .ref bo ∧ C bo H) ∨ (bv = .non ∧ ∀ bo, H bo = none → C bo (upd H bo (.dK []))) := by
  rcases h with ⟨rfl, rfl⟩ | ⟨bo, bkvs, rfl, b, l, e⟩
  · exact .inr ⟨rfl, fun bo n => q bo [] _ (same_upd n) upd_same (by rw [sizeLine_eq]; decide) (fun n r h => by cases h)⟩
  · refine .inl ⟨bo, rfl, q bo bkvs H (fun _ _ h => h) b l fun n r hr => ?_⟩
    obtain ⟨v, h1, h2, h3⟩ := e n r hr
    exact ⟨v, h1, h2, alR_wf _ h3⟩
/-- the count, as a reckoning -/
def cfgN (SC RC ma bo CT : Addr) (H0 : Hp) (bk : List Nat → Option (List Stp)) (bkvs : List (Key × V)) : Cfg Nat where
  SC := SC
  RC := RC
  ma := ma
  bo := bo
  H0 := H0
  W := fun _ _ v a => v = .int (a : Nat) ∧ a ≤ 10 ^ 90
  bk := bk
  bkvs := bkvs
  ps := psT
  acc := fun a => a ≤ 10 ^ 60
  O := opsN
  ER := fun E => TMr CT H0 E (10 ^ 60)
theorem wok_N (SC RC ma bo CT : Addr) (H0 : Hp) (bk : List Nat → Option (List Stp)) (bkvs : List (Key × V)) : WOk (cfgN SC RC ma bo CT H0 bk bkvs) where
  keep := fun h _ => h
  grow := fun h _ => h
  nn := fun h z => by rw [h.1] at z; cases z
  a0 := Nat.zero_le _
  aj := fun a b x e => by
    have e : (if 10 ^ 60 < a + b then none else some (a + b)) = some x := e
    split at e
    · cases e
    · cases e
      show a + b ≤ 10 ^ 60
      omega
  p1 := by show 1 ≤ 10 ^ 30; decide
/-- the class of makers that count -/
structure CmC (K : PySem.W.Frag) (mg : Str → Option Value) (CC : Addr) (h_no h_of h_jn h_rp : Addr) (o_no o_of o_jn o_rp : FuncData) : Prop where
  gC : mg "CountMaker" = some (.ref CC)
  cl : Cls K CC
  mk0 : Mk0 K CC
  Fno : Fun K "nothing" "CountMaker.nothing" sCm_no h_no o_no
  bno : Binds K o_no ["self"] []
  mno : Meth K CC "nothing" h_no
  Fof : Fun K "of_step" "CountMaker.of_step" sCm_of h_of o_of
  bof : Binds K o_of ["self", "step"] []
  mof : Meth K CC "of_step" h_of
  Fjn : Fun K "joined" "CountMaker.joined" sCm_jn h_jn o_jn
  bjn : Binds K o_jn ["self", "ahead", "behind"] []
  mjn : Meth K CC "joined" h_jn
  Frp : Fun K "repeated" "CountMaker.repeated" sCm_rp h_rp o_rp
  brp : Binds K o_rp ["self", "once", "many"] []
  mrp : Meth K CC "repeated" h_rp
  cD : ∃ t, mg "MOST_DONE" = some (.int (10 ^ 60) t)
section
variable {P : Program} {w : World} {K : PySem.W.Frag} {mg : Str → Option Value} {base : Heap} {α : Type} {SC RC CC CH fH CT fT f_ma f_cr f_my : Addr} {eH eT d_ma d_cr d_my : FuncData} {g_Si g_Ri g_be g_ad g_do g_st g_fi g_wo h_no h_of h_jn h_rp f_w f_n f_nu f_tu f_pl f_gh f_ls f_lb f_ir : Addr} {e_Si e_Ri e_be e_ad e_do e_st e_fi e_wo o_no o_of o_jn o_rp d_w d_n d_nu d_tu d_pl d_gh d_ls d_lb d_ir : FuncData}
def spRi (K : PySem.W.Frag) (RC : Addr) : Sp := fun vs H Q _ => ∃ (r dr ma : Addr) (bv : V), vs = [.ref r, .ref ma, bv] ∧ H r = some (.ins RC dr []) ∧
  ∀ H' N L, SmX r H H' → H N = none → H L = none → N ≠ L → H' N = some (.dK []) → H' L = some (.lst []) → H' r = some (.ins RC dr [("maker", .ref ma), ("book", bv), ("named", .ref N), ("begun_rows", .ref L)]) → Q .non H'
theorem ok_Ri {k : Nat} (R : RkC K mg SC RC g_Si g_Ri g_be g_ad g_do g_st g_fi g_wo e_Si e_Ri e_be e_ad e_do e_st e_fi e_wo) : FnOk P w K mg base CX0 (k + 1) g_Ri e_Ri ["self", "maker", "book"] (spRi K RC) := by
  refine R.FRi.ok scRk_Ri (fun vs H Q E h => ?_) (fun cdv A outer st H vs Q E hr h => ?_)
  · obtain ⟨r, dr, ma, bv, rfl, _⟩ := h
    rfl
  · obtain ⟨r, dr, ma, bv, rfl, hx, q⟩ := h
    refine ⟨_, (pss_cons (ps_fld (pv 0) (pv 1) rfl)
      (pss_cons (ps_fld (pv 0) (pv 2) rfl)
      (pss_cons (ps_fld (pv 0) pe_dnewK rfl)
      (pss_one (ps_fld (pv 0) (pe_lst pa_nil) rfl))))), ?_⟩
    refine ⟨_, rfl, _, rfl, r, RC, dr, _, rfl, hx, R.clR, R.rm, by decide, ?_⟩
    refine ⟨_, rfl, _, rfl, r, RC, dr, _, rfl, upd_same, R.clR, R.rb, by show 1 < 1000; decide, ?_⟩
    have s1 : SmX r H (upd (upd H r (.ins RC dr (putF "maker" (.ref ma) []))) r (.ins RC dr (putF "book" bv (putF "maker" (.ref ma) [])))) := fun b o nb hb => by rw [upd_ne nb, upd_ne nb]; exact hb
    have e1 : (upd (upd H r (.ins RC dr (putF "maker" (.ref ma) []))) r (.ins RC dr (putF "book" bv (putF "maker" (.ref ma) [])))) r = some (.ins RC dr [("maker", .ref ma), ("book", bv)]) := upd_same
    generalize (upd (upd H r (.ins RC dr (putF "maker" (.ref ma) []))) r (.ins RC dr (putF "book" bv (putF "maker" (.ref ma) [])))) = H1 at s1 e1 ⊢
    intro N nN
    have nrN : r ≠ N := ne_of_none e1 nN
    refine ⟨_, rfl, r, RC, dr, _, rfl, by rw [upd_ne nrN]; exact e1, R.clR, R.rn, by show 2 < 1000; decide, ?_⟩
    refine ⟨by show 0 ≤ sizeLine; decide, fun L nL => ?_⟩
    have nLr : L ≠ r := fun z => by rw [z, upd_same] at nL; cases nL
    rw [upd_ne nLr] at nL
    have nNL : N ≠ L := ne_of_none upd_same nL
    rw [upd_ne (Ne.symm nNL)] at nL
    refine ⟨_, rfl, r, RC, dr, _, rfl, by rw [upd_ne (Ne.symm nLr), upd_same], R.clR, R.rr, by show 3 < 1000; decide, ?_⟩
    have f0 : ∀ b, b ≠ r → H1 b = none → H b = none := fun b nb h => by
      cases e : H b with
      | none => rfl
      | some o => rw [s1 b o nb e] at h; cases h
    refine q _ N L (fun b o nb hb => ?_) (f0 N (Ne.symm nrN) nN) (f0 L nLr nL) nNL ?_ ?_ ?_
    · have h1 := s1 b o nb hb
      rw [upd_ne nb, upd_ne (ne_of_none h1 nL), upd_ne nb, upd_ne (ne_of_none h1 nN)]
      exact h1
    · rw [upd_ne (Ne.symm nrN), upd_ne nNL, upd_ne (Ne.symm nrN), upd_same]
    · rw [upd_ne nLr, upd_same]
    · rw [upd_same]; rfl
def MaC (P : Program) (w : World) (K : PySem.W.Frag) (mg : Str → Option Value) (base : Heap) (α : Type) (k : Nat) (SC RC : Addr) (ma : Addr) (v : V) (rr : List Stp) (m : Nat) (Q : VK) (E : XK) (bo : Addr) (H1 : Hp) : Prop :=
  ∃ c : Cfg α, c.ma = ma ∧ c.bo = bo ∧ c.H0 = H1 ∧ Good P w K mg base k SC RC c ∧ Dp K c.H0 v (encR rr) ∧ alR c.ps rr ∧
    match runM c.O c.bk m ⟨[⟨rr, none, 1, c.O.w0⟩], fun _ => none⟩ with
    | .done a => ∀ H' v, Same c.H0 H' → c.W [] H' v a → Q v H'
    | .over => c.ER E
    | .dead => False
def spMa (P : Program) (w : World) (K : PySem.W.Frag) (mg : Str → Option Value) (base : Heap) (α : Type) (k : Nat) (SC RC : Addr) : Sp := fun vs H Q E => ∃ (ma : Addr) (v bv : V) (rr : List Stp) (m : Nat), vs = [.ref ma, v, bv] ∧
  ((∃ bo, bv = .ref bo ∧ MaC P w K mg base α k SC RC ma v rr m Q E bo H) ∨ (bv = .non ∧ ∀ bo, H bo = none → MaC P w K mg base α k SC RC ma v rr m Q E bo (upd H bo (.dK []))))
theorem ok_Ma {k : Nat} (R : RkC K mg SC RC g_Si g_Ri g_be g_ad g_do g_st g_fi g_wo e_Si e_Ri e_be e_ad e_do e_st e_fi e_wo) (Ma : DF K mg "made_of" sMadeOf ["maker", "tree", "book"] f_ma d_ma) : FnOk P w K mg base (L2.CX P w) (k + 7) f_ma d_ma ["maker", "tree", "book"] (spMa P w K mg base α k SC RC) := by
  have GRi : FnOk P w K mg base CX0 (0 + 1) g_Ri e_Ri ["self", "maker", "book"] (spRi K RC) := ok_Ri R
  have GWo : FnOk P w K mg base (L2.CX P w) (k + 6) g_wo e_wo ["self", "row"] (spWo P w K mg base α k SC RC) := ok_Wo R
  refine Ma.F.okX scMadeOf (fun vs H Q E h => ?_) (fun cdv A outer s0 H vs Q E hr h => ?_)
  · obtain ⟨ma, v, bv, rr, m, rfl, _⟩ := h
    rfl
  · obtain ⟨ma, v, bv, rr, m, rfl, h⟩ := h
    have r2 : Room (0 + 1 + 1) _ := hr.mono (by omega)
    refine ⟨_, (pss_one (ps_ret (pe_meth (E := E) (pe_make R.mkR GRi r2 (by rfl) R.gR R.bRi .nil pass0 (pa_cons (pv 0) (pa_cons (pe_ifExp (pt_cmp (pc_isN (pv 2))) pe_dnewK (pv 2)) pa_nil))) R.clR R.mwo GWo hr R.bwo .nil (passes_call (takes_of rfl rfl rfl rfl) (fun _ _ _ _ h => h)) (pa_cons (pv 1) pa_nil)))), ?_⟩
    have step : ∀ (bo : Addr) (c : Cfg α), c.ma = ma → c.bo = bo → Good P w K mg base k SC RC c → Dp K c.H0 v (encR rr) → alR c.ps rr →
        (match runM c.O c.bk m ⟨[⟨rr, none, 1, c.O.w0⟩], fun _ => none⟩ with
          | .done a => ∀ H' v, Same c.H0 H' → c.W [] H' v a → Q v H'
          | .over => c.ER E
          | .dead => False) → ∀ r dx, c.H0 r = none → c.H0 dx = none → dx ≠ r → ∀ (Q2 : VK), (∀ H2 dr fs, H2 r = some (.ins RC dr fs) → fs.lookup ("worth_of" : Str) = none → spWo P w K mg base α k SC RC [.ref r, v] H2 Q E → Q2 .non H2) → spRi K RC [.ref r, .ref ma, .ref bo] (upd (upd c.H0 dx (.own r)) r (.ins RC dx [])) Q2 E0 := by
      intro bo c ema ebo G hd hg hm r dx nr ndx ne Q2 q2
      subst ema ebo
      have s1 : Same c.H0 (upd (upd c.H0 dx (.own r)) r (.ins RC dx [])) := sm_trans (same_upd ndx) (same_upd (by rw [upd_ne (Ne.symm ne)]; exact nr))
      refine ⟨r, dx, c.ma, _, rfl, upd_same, fun H2 N L sx nN nL nNL hN hL hR => q2 H2 dx _ hR rfl ?_⟩
      have s2 : Same c.H0 H2 := fun b o hb => sx b o (ne_of_none hb nr) (s1 _ _ hb)
      have nN0 : c.H0 N = none := L2.Same.free s1 nN
      have nL0 : c.H0 L = none := L2.Same.free s1 nL
      have nrN : r ≠ N := ne_of_none upd_same nN
      have nrL : r ≠ L := ne_of_none upd_same nL
      refine ⟨c, r, N, L, v, rr, m, rfl, G, ⟨⟨dx, by rw [hR, G.eR]⟩, ⟨[], hN, List.nodup_nil, nofun, fun n => rfl⟩, hL, trivial, ?_, ?_, s2⟩, hd, hg, hm⟩
      · simp [mOf, flA, nrN, nrL, nNL]
      · intro b hb
        simp only [mOf, flA, List.mem_cons, List.not_mem_nil, or_false] at hb
        rcases hb with rfl | rfl | rfl
        · exact nr
        · exact nN0
        · exact nL0
    rcases h with ⟨bo, rfl, c, e1, e2, e3, G, hd, hg, hm⟩ | ⟨rfl, h⟩
    · subst e3
      refine ⟨_, rfl, _, rfl, _, rfl, ?_⟩
      rw [decide_eq_false (by nofun : ¬ V.ref bo = V.non)]
      refine iteF ⟨_, rfl, fun r dx nr ndx ne => step bo c e1 e2 G hd hg hm r dx nr ndx ne _ fun H2 dr fs e l q2 => ⟨rfl, r, dr, fs, rfl, e, l, _, rfl, q2⟩⟩
    · refine ⟨_, rfl, _, rfl, _, rfl, iteT fun bo nbo => ?_⟩
      obtain ⟨c, e1, e2, e3, G, hd, hg, hm⟩ := h bo nbo
      rw [← e3]
      exact fun r dx nr ndx ne => step bo c e1 e2 G hd hg hm r dx nr ndx ne _ fun H2 dr fs e l q2 => ⟨rfl, r, dr, fs, rfl, e, l, _, rfl, q2⟩
theorem ok_cnt {k : Nat} (R : RkC K mg SC RC g_Si g_Ri g_be g_ad g_do g_st g_fi g_wo e_Si e_Ri e_be e_ad e_do e_st e_fi e_wo) (Cm : CmC K mg CC h_no h_of h_jn h_rp o_no o_of o_jn o_rp) (T : HE K mg CH fH eH) (X : XC K mg "TooMany" "TooMany.__init__" sTMinit "most" CT fT eT) {ma bo dx : Addr} {H0 : Hp} {bk : List Nat → Option (List Stp)} {bkvs : List (Key × V)}
    (hm : H0 ma = some (.ins CC dx [])) (hb : H0 bo = some (.dK bkvs)) (hl : bkvs.length < sizeLine) (hi : ∀ n r, bk n = some r → ∃ v, valV bkvs (kN n) = some v ∧ Dp K H0 v (encR r) ∧ alR psT r) :
    Good P w K mg base (k + 4) SC RC (cfgN SC RC ma bo CT H0 bk bkvs) := by
  obtain ⟨tD, hD⟩ := Cm.cD
  refine ⟨wok_N .., ⟨hb, hl, hi⟩, ⟨CC, dx, [], hm, Cm.cl, ⟨rfl, rfl, rfl, rfl⟩, ⟨_, _, Cm.mno, Cm.bno, ?_⟩, ⟨_, _, Cm.mof, Cm.bof, ?_⟩, ⟨_, _, Cm.mjn, Cm.bjn, ?_⟩, ⟨_, _, Cm.mrp, Cm.brp, ?_⟩⟩, rfl, rfl⟩
  · refine Cm.Fno.okX scCm_no (fun vs H Q E h => ?_) (fun cdv A outer s0 H vs Q E hr h => ?_)
    · obtain ⟨rfl, _⟩ := h
      rfl
    · obtain ⟨rfl, s, q⟩ := h
      refine ⟨_, (pss_one (ps_ret pe_int)), ?_⟩
      exact q H (.int 0) (fun _ _ h => h) fun M _ => ⟨rfl, Nat.zero_le _⟩
  · refine Cm.Fof.okX scCm_of (fun vs H Q E h => ?_) (fun cdv A outer s0 H vs Q E hr h => ?_)
    · obtain ⟨v, x, rfl, _⟩ := h
      rfl
    · obtain ⟨v, x, rfl, s, hd, hx, hp, q⟩ := h
      refine ⟨_, (pss_one (ps_ret pe_int)), ?_⟩
      exact q H (.int 1) (fun _ _ h => h) fun M _ => ⟨rfl, by show 1 ≤ 10 ^ 90; decide⟩
  · have GTM : FnOk P w K mg base CX0 (0 + 2) fT eT ["self", "most"] (sp1 K "most" "toomany") := ok_TM T X.F
    refine Cm.Fjn.okX scCm_jn (fun vs H Q E h => ?_) (fun cdv A outer s0 H vs Q E hr h => ?_)
    · obtain ⟨va, vb, a, b, M, rfl, _⟩ := h
      rfl
    · obtain ⟨va, vb, a, b, M, rfl, s, hM, ⟨rfl, ha⟩, ⟨rfl, hb⟩, q⟩ := h
      have r3 : Room (0 + 3) _ := hr.mono (by omega)
      refine ⟨_, (pss_cons (ps_if (pt_cmpR op_gt (pe_op op_add (pv 1) (pv 2)) (pe_glob (v := .int (10 ^ 60)) rfl hD ⟨_, rfl⟩) (nomark _))
        (pss_one (ps_raise rfl (takes_of rfl rfl rfl rfl) (pmk_oex X.O X.iC X.tI GTM r3 X.b .nil pass0 (by rfl) X.gC (pa_cons (pe_glob (v := .int (10 ^ 60)) rfl hD ⟨_, rfl⟩) pa_nil))))
        pss_nil)
      (pss_one (ps_ret (pe_op op_add (pv 1) (pv 2))))), ?_⟩
      refine ⟨_, rfl, _, rfl, _, _, rfl, rfl, _, _, rfl, rfl, _, rfl, ?_⟩
      by_cases big : 10 ^ 60 < a + b
      · have e : (cfgN SC RC ma bo CT H0 bk bkvs).O.jn a b = none := if_pos big
        rw [e] at q
        have q : TMr CT H0 E (10 ^ 60) := q
        rw [decide_eq_true (by omega)]
        exact iteT ⟨by show 1 ≤ 1000; decide, mk1 X.O X.hw X.hf fun d H4 s4 n4 e4 => q H4 d (sm_trans s s4) (L2.Same.free s n4) e4⟩
      · have e : (cfgN SC RC ma bo CT H0 bk bkvs).O.jn a b = some (a + b) := if_neg big
        rw [e] at q
        have q : ∀ H' v, Same H H' → (v = .int ((a + b : Nat) : Int) ∧ a + b ≤ 10 ^ 90) → Q v H' := q
        rw [decide_eq_false (by omega)]
        refine iteF ⟨_, rfl, _, rfl, _, _, rfl, rfl, q H _ (fun _ _ h => h) ⟨rfl, ?_⟩⟩
        have : (10 : Nat) ^ 60 ≤ 10 ^ 90 := by decide
        omega
  · refine Cm.Frp.okX scCm_rp (fun vs H Q E h => ?_) (fun cdv A outer s0 H vs Q E hr h => ?_)
    · obtain ⟨va, a, n, M, rfl, _⟩ := h
      rfl
    · obtain ⟨va, a, n, M, rfl, s, hM, ⟨rfl, ha⟩, h6, hp, q⟩ := h
      have h6 : a ≤ 10 ^ 60 := h6
      have hp : n ≤ 10 ^ 30 := hp
      refine ⟨_, (pss_one (ps_ret (pe_op op_mulW (pv 1) (pv 2)))), ?_⟩
      refine ⟨_, rfl, _, rfl, _, _, rfl, rfl, ?_, q H _ (fun _ _ h => h) ⟨rfl, ?_⟩⟩
      · refine wide_mul (a := 300) (b := 300) ?_ ?_ (by decide) (by decide) (by decide)
        · rw [Int.natAbs_natCast]; exact Nat.lt_of_le_of_lt h6 (by decide)
        · rw [Int.natAbs_natCast]; exact Nat.lt_of_le_of_lt hp (by decide)
      · show a * n ≤ 10 ^ 90
        exact Nat.le_trans (Nat.mul_le_mul h6 hp) (by decide)
def spMany (K : PySem.W.Frag) (CT : Addr) : Sp := fun vs H Q E => ∃ (v bv : V) (rr : List Stp) (bk : List Nat → Option (List Stp)) (dn : List Nat → Nat), vs = [v, bv] ∧ Dp K H v (encR rr) ∧ wfR rr = true ∧ dpR rr ≤ 12 ∧ szR rr ≤ 60 ∧
  BkIn K H bv bk ∧ (∀ n r, bk n = some r → mdR dn r ≤ dn n) ∧ (∀ n r, bk n = some r → inR bk r) ∧ mdR dn rr ≤ 900 ∧ inR bk rr ∧
  match evR opsN (envOf opsN bk dn) rr 0 with
  | none => TMr CT H E (10 ^ 60)
  | some n => ∀ H', Same H H' → Q (.int (n : Nat)) H'
theorem ok_many {k : Nat} (W : RowD K mg f_w f_n f_nu f_tu f_pl f_gh f_ls f_lb f_ir d_w d_n d_nu d_tu d_pl d_gh d_ls d_lb d_ir) (Y : DF K mg "check_row" sChkRow ["tree"] f_cr d_cr) (R : RkC K mg SC RC g_Si g_Ri g_be g_ad g_do g_st g_fi g_wo e_Si e_Ri e_be e_ad e_do e_st e_fi e_wo) (Cm : CmC K mg CC h_no h_of h_jn h_rp o_no o_of o_jn o_rp) (T : HE K mg CH fH eH) (X : XC K mg "TooMany" "TooMany.__init__" sTMinit "most" CT fT eT) (Ma : DF K mg "made_of" sMadeOf ["maker", "tree", "book"] f_ma d_ma)
    (F : FunD K "many_done" "many_done" (defArgs sMany) (defBody sMany) (defScope sMany) [] [("book", .non)] f_my d_my) : FnOk P w K mg base (L2.CX P w) (k + 33) f_my d_my ["tree", "book"] (spMany K CT) := by
  have GC : FnOk P w K mg base CX0 (k + 32) f_cr d_cr ["tree"] (spChkRow K) := ok_cr W Y
  have GM : FnOk P w K mg base (L2.CX P w) (0 + 4 + 7) f_ma d_ma ["maker", "tree", "book"] (spMa P w K mg base Nat (0 + 4) SC RC) := ok_Ma R Ma
  refine F.ok scMany (fun vs H Q E h => ?_) (fun cdv A outer s0 H vs Q E hr h => ?_)
  · obtain ⟨v, bv, rr, bk, dn, rfl, _⟩ := h
    rfl
  · obtain ⟨v, bv, rr, bk, dn, rfl, hd, hw, hdp, hsz, hbk, md, ok, hmd, hok, q⟩ := h
    have r32 : Room (k + 32) _ := hr
    have r11 : Room (0 + 4 + 7) _ := hr.mono (by omega)
    refine ⟨_, (pss_cons (ps_expr (pe_call GC r32 rfl Y.g Y.F.kp Y.b .nil pass0 (pa_cons (pv 0) pa_nil)))
      (pss_one (ps_ret (pe_call (E := E) GM r11 rfl Ma.g Ma.F.kp Ma.b .nil (passes_call (takes_of rfl rfl rfl rfl) (fun _ _ _ _ h => h)) (pa_cons (pe_make00 Cm.mk0 (by rfl) Cm.gC) (pa_cons (pv 0) (pa_cons (pv 1) pa_nil))))))), ?_⟩
    refine ⟨_, rfl, v, rr, rfl, hd, hw, hdp, hsz, fun H1 s1 => ?_⟩
    refine fun x dx nx ndx ne => ?_
    have s2 : Same H1 (upd (upd H1 dx (.own x)) x (.ins CC dx [])) := sm_trans (same_upd ndx) (same_upd (by rw [upd_ne (Ne.symm ne)]; exact nx))
    have ex : (upd (upd H1 dx (.own x)) x (.ins CC dx [])) x = some (.ins CC dx []) := upd_same
    have s12 := sm_trans s1 s2
    obtain ⟨m, hm⟩ := run_whole (bkOk_of opsN md ok) hmd hok
    refine ⟨_, rfl, _, rfl, x, v, bv, rr, m, rfl, (hbk.same s12).split fun bo bkvs H3 s3 hbo hl hi => ?_⟩
    refine ⟨cfgN SC RC x bo CT H3 bk bkvs, rfl, rfl, rfl, ok_cnt R Cm T X (s3 _ _ ex) hbo hl hi, dp_same (sm_trans s12 s3) hd, alR_wf _ hw, ?_⟩
    have s13 := sm_trans s12 s3
    cases e : evR opsN (envOf opsN bk dn) rr 0 with
    | none =>
      rw [show opsN.w0 = 0 from rfl, e] at hm
      rw [e] at q
      have hm : runM (cfgN SC RC x bo CT H3 bk bkvs).O (cfgN SC RC x bo CT H3 bk bkvs).bk m ⟨[⟨rr, none, 1, (cfgN SC RC x bo CT H3 bk bkvs).O.w0⟩], fun _ => none⟩ = .over := hm
      rw [hm]
      exact TMr.same q s13
    | some n =>
      rw [show opsN.w0 = 0 from rfl, e] at hm
      rw [e] at q
      have hm : runM (cfgN SC RC x bo CT H3 bk bkvs).O (cfgN SC RC x bo CT H3 bk bkvs).bk m ⟨[⟨rr, none, 1, (cfgN SC RC x bo CT H3 bk bkvs).O.w0⟩], fun _ => none⟩ = .done n := hm
      rw [hm]
      rintro H4 v4 s4 ⟨rfl, _⟩
      exact q H4 (sm_trans s13 s4)
end
end NC
namespace NC
open PySem PySem.Spec PyProof.Rows L2
abbrev sSpelled : Stmt := topS 34
theorem scSpelled : FnScope ["tree", "book", "most"] ["tree", "book", "most"] (defScope sSpelled) := ⟨rfl, rfl, rfl, by decide +kernel, rfl, by decide +kernel, by decide +kernel⟩
abbrev sLm_in : Stmt := inClass (topS 29) 0
theorem scLm_in : FnScope ["self", "most"] ["self", "most"] (defScope sLm_in) := ⟨rfl, rfl, rfl, by decide +kernel, rfl, by decide +kernel, by decide +kernel⟩
abbrev sLm_no : Stmt := inClass (topS 29) 1
theorem scLm_no : FnScope ["self"] ["self"] (defScope sLm_no) := ⟨rfl, rfl, rfl, by decide +kernel, rfl, by decide +kernel, by decide +kernel⟩
abbrev sLm_of : Stmt := inClass (topS 29) 2
theorem scLm_of : FnScope ["self", "step"] ["self", "step"] (defScope sLm_of) := ⟨rfl, rfl, rfl, by decide +kernel, rfl, by decide +kernel, by decide +kernel⟩
abbrev sLm_jn : Stmt := inClass (topS 29) 3
theorem scLm_jn : FnScope ["self", "ahead", "behind"] ["self", "ahead", "behind"] (defScope sLm_jn) := ⟨rfl, rfl, rfl, by decide +kernel, rfl, by decide +kernel, by decide +kernel⟩
abbrev sLm_rp : Stmt := inClass (topS 29) 4
theorem scLm_rp : FnScope ["self", "once", "many"] ["self", "once", "many"] (defScope sLm_rp) := ⟨rfl, rfl, rfl, by decide +kernel, rfl, by decide +kernel, by decide +kernel⟩
def gAp {α : Type} (us ws : List α) : List α := us ++ ws
theorem dpa_take {K : PySem.W.Frag} {H : Hp} : ∀ {vs : List V} {ds : List PyData} (n : Nat), DpAll K H vs ds → DpAll K H (vs.take n) (ds.take n)
  | _, _, 0, _ => by rw [List.take_zero, List.take_zero]; exact .nil
  | _, _, n + 1, .nil => by rw [List.take_nil, List.take_nil]; exact .nil
  | _, _, n + 1, .cons a b => by rw [List.take_succ_cons, List.take_succ_cons]; exact .cons a (dpa_take n b)
theorem dpa_app {K : PySem.W.Frag} {H : Hp} : ∀ {vs ws : List V} {ds es : List PyData}, DpAll K H vs ds → DpAll K H ws es → DpAll K H (vs ++ ws) (ds ++ es)
  | _, _, _, _, .nil, h => h
  | _, _, _, _, .cons a b, h => .cons a (dpa_app b h)
theorem dpa_rep {K : PySem.W.Frag} {H : Hp} {vs : List V} {ds : List PyData} (h : DpAll K H vs ds) : ∀ n : Nat, DpAll K H (List.replicate n vs).flatten (List.replicate n ds).flatten
  | 0 => by exact .nil
  | n + 1 => by rw [List.replicate_succ, List.replicate_succ, List.flatten_cons, List.flatten_cons]; exact dpa_app h (dpa_rep h n)
theorem encL_app (a b : List Stp) : encL (a ++ b) = encL a ++ encL b := by rw [encL_map, encL_map, encL_map, List.map_append]
theorem encL_take (a : List Stp) (n : Nat) : encL (a.take n) = (encL a).take n := by rw [encL_map, encL_map, List.map_take]
theorem encL_rep (a : List Stp) (n : Nat) : encL (List.replicate n a).flatten = (List.replicate n (encL a)).flatten := by
  rw [encL_map, encL_map, List.map_flatten, List.map_replicate]
theorem cut_take {xs : List V} (n : Nat) : cutV xs none (some (n : Int)) = xs.take n := by
  unfold cutV
  rw [HT.sIx_none, HT.sIx_nat, List.drop_zero, Nat.sub_zero]
  rcases Nat.le_total n xs.length with h | h
  · rw [Nat.min_eq_left h]
  · rw [Nat.min_eq_right h, List.take_length, List.take_of_length_le h]
theorem ne_none {H : Hp} {p : Addr} {o : HO} (h : H p = some o) (z : H p = none) : False := by rw [z] at h; cases h
/-- the lists, as a reckoning -/
def cfgL (K : PySem.W.Frag) (most : Nat) (SC RC ma bo : Addr) (H0 : Hp) (bk : List Nat → Option (List Stp)) (bkvs : List (Key × V)) : Cfg (List Stp) where
  SC := SC
  RC := RC
  ma := ma
  bo := bo
  H0 := H0
  W := fun M H v a => ∃ (p : Addr) (vs : List V), v = .ref p ∧ p ∉ M ∧ H0 p = none ∧ H p = some (.lst vs) ∧ DpAll K H0 vs (encL a) ∧ a.length ≤ most + 1
  bk := bk
  bkvs := bkvs
  ps := psT
  acc := fun _ => True
  O := opsL most
  ER := fun _ => False
theorem wok_L (K : PySem.W.Frag) (most : Nat) (SC RC ma bo : Addr) (H0 : Hp) (bk : List Nat → Option (List Stp)) (bkvs : List (Key × V)) : WOk (cfgL K most SC RC ma bo H0 bk bkvs) where
  keep := fun ⟨p, vs, e, n, n0, h, d, l⟩ k => ⟨p, vs, e, n, n0, k _ _ n h, d, l⟩
  grow := fun ⟨p, vs, e, n, n0, h, d, l⟩ k => ⟨p, vs, e, fun hp => (k p hp).elim n (ne_none h), n0, h, d, l⟩
  nn := fun ⟨p, vs, e, _⟩ z => by rw [e] at z; cases z
  a0 := trivial
  aj := fun _ _ _ _ => trivial
  p1 := by show 1 ≤ 10 ^ 30; decide
/-- the class of makers that list -/
structure LmC (K : PySem.W.Frag) (mg : Str → Option Value) (LC : Addr) (l_in l_no l_of l_jn l_rp : Addr) (m_in m_no m_of m_jn m_rp : FuncData) : Prop where
  gC : mg "ListMaker" = some (.ref LC)
  cl : Cls K LC
  mk0 : Mk K LC l_in
  nmo : NoAttr K LC "most"
  Fin : Fun K "__init__" "ListMaker.__init__" sLm_in l_in m_in
  bin : Binds K m_in ["self", "most"] []
  Fno : Fun K "nothing" "ListMaker.nothing" sLm_no l_no m_no
  bno : Binds K m_no ["self"] []
  mno : Meth K LC "nothing" l_no
  Fof : Fun K "of_step" "ListMaker.of_step" sLm_of l_of m_of
  bof : Binds K m_of ["self", "step"] []
  mof : Meth K LC "of_step" l_of
  Fjn : Fun K "joined" "ListMaker.joined" sLm_jn l_jn m_jn
  bjn : Binds K m_jn ["self", "ahead", "behind"] []
  mjn : Meth K LC "joined" l_jn
  Frp : Fun K "repeated" "ListMaker.repeated" sLm_rp l_rp m_rp
  brp : Binds K m_rp ["self", "once", "many"] []
  mrp : Meth K LC "repeated" l_rp
  zlen : mg "len" = none
  zmin : mg "min" = none
section
variable {P : Program} {w : World} {K : PySem.W.Frag} {mg : Str → Option Value} {base : Heap} {SC RC CC LC CH fH CT fT f_ma f_cr f_my f_sp : Addr} {eH eT d_ma d_cr d_my d_sp : FuncData} {g_Si g_Ri g_be g_ad g_do g_st g_fi g_wo h_no h_of h_jn h_rp f_w f_n f_nu f_tu f_pl f_gh f_ls f_lb f_ir l_in l_no l_of l_jn l_rp : Addr} {e_Si e_Ri e_be e_ad e_do e_st e_fi e_wo o_no o_of o_jn o_rp d_w d_n d_nu d_tu d_pl d_gh d_ls d_lb d_ir m_in m_no m_of m_jn m_rp : FuncData}
def spLin (LC : Addr) : Sp := fun vs H Q _ => ∃ x dx v, vs = [.ref x, v] ∧ H x = some (.ins LC dx []) ∧ Q .non (upd H x (.ins LC dx [("most", v)]))
theorem ok_Lin {k : Nat} (Lm : LmC K mg LC l_in l_no l_of l_jn l_rp m_in m_no m_of m_jn m_rp) : FnOk P w K mg base CX0 (k + 1) l_in m_in ["self", "most"] (spLin LC) := by
  refine Lm.Fin.ok scLm_in (fun vs H Q E h => ?_) (fun cdv A outer st H vs Q E hr h => ?_)
  · obtain ⟨x, dx, v, rfl, _⟩ := h
    rfl
  · obtain ⟨x, dx, v, rfl, hx, q⟩ := h
    refine ⟨_, (pss_one (ps_fld (pv 0) (pv 1) rfl)), ?_⟩
    exact ⟨_, rfl, _, rfl, x, LC, dx, _, rfl, hx, Lm.cl, Lm.nmo, by decide, q⟩
theorem ok_lst {k : Nat} (R : RkC K mg SC RC g_Si g_Ri g_be g_ad g_do g_st g_fi g_wo e_Si e_Ri e_be e_ad e_do e_st e_fi e_wo) (Lm : LmC K mg LC l_in l_no l_of l_jn l_rp m_in m_no m_of m_jn m_rp) {ma bo dx : Addr} {most : Nat} {H0 : Hp} {bk : List Nat → Option (List Stp)} {bkvs : List (Key × V)} (h4 : most ≤ 400)
    (hm : H0 ma = some (.ins LC dx [("most", .int (most : Nat))])) (hb : H0 bo = some (.dK bkvs)) (hl : bkvs.length < sizeLine) (hi : ∀ n r, bk n = some r → ∃ v, valV bkvs (kN n) = some v ∧ Dp K H0 v (encR r) ∧ alR psT r) :
    Good P w K mg base (k + 1) SC RC (cfgL K most SC RC ma bo H0 bk bkvs) := by
  refine ⟨wok_L .., ⟨hb, hl, hi⟩, ⟨LC, dx, _, hm, Lm.cl, ⟨rfl, rfl, rfl, rfl⟩, ⟨_, _, Lm.mno, Lm.bno, ?_⟩, ⟨_, _, Lm.mof, Lm.bof, ?_⟩, ⟨_, _, Lm.mjn, Lm.bjn, ?_⟩, ⟨_, _, Lm.mrp, Lm.brp, ?_⟩⟩, rfl, rfl⟩
  · refine Lm.Fno.okX scLm_no (fun vs H Q E h => ?_) (fun cdv A outer s0 H vs Q E hr h => ?_)
    · obtain ⟨rfl, _⟩ := h
      rfl
    · obtain ⟨rfl, s, q⟩ := h
      refine ⟨_, (pss_one (ps_ret (pe_lst pa_nil))), ?_⟩
      refine ⟨by show 0 ≤ sizeLine; decide, fun p np => q _ _ (same_upd np) fun M hM => ⟨p, [], rfl, fun h => hM p h np, L2.Same.free s np, upd_same, .nil, Nat.zero_le _⟩⟩
  · refine Lm.Fof.okX scLm_of (fun vs H Q E h => ?_) (fun cdv A outer s0 H vs Q E hr h => ?_)
    · obtain ⟨v, x, rfl, _⟩ := h
      rfl
    · obtain ⟨v, x, rfl, s, hd, hx, hp, q⟩ := h
      refine ⟨_, (pss_one (ps_ret (pe_lst (pa_cons (pv 1) pa_nil)))), ?_⟩
      refine ⟨_, rfl, by show 1 ≤ sizeLine; decide, fun p np => q _ _ (same_upd np) fun M hM => ⟨p, [v], rfl, fun h => hM p h np, L2.Same.free s np, upd_same, .cons hd .nil, Nat.le_add_left _ _⟩⟩
  · refine Lm.Fjn.okX scLm_jn (fun vs H Q E h => ?_) (fun cdv A outer s0 H vs Q E hr h => ?_)
    · obtain ⟨va, vb, a, b, M, rfl, _⟩ := h
      rfl
    · obtain ⟨va, vb, a, b, M, rfl, s, hM, ⟨p, xs, rfl, _, _, hp, dp, lp⟩, ⟨p2, ys, rfl, _, _, hp2, dp2, lp2⟩, q⟩ := h
      have q : ∀ H' v, Same H H' → (∃ (p : Addr) (vs : List V), v = .ref p ∧ p ∉ M ∧ H0 p = none ∧ H' p = some (.lst vs) ∧ DpAll K H0 vs (encL ((a ++ b).take most)) ∧ ((a ++ b).take most).length ≤ most + 1) → Q v H' := q
      have l1 := dpa_len dp
      have l2 := dpa_len dp2
      rw [encL_len] at l1 l2
      refine ⟨_, (pss_one (ps_ret (pe_slice sl_list (pe_op op_cat (pv 1) (pv 2)) po_none (po_some (pe_fld (pv 0) rfl))))), ?_⟩
      refine ⟨_, rfl, _, rfl, p, p2, xs, ys, rfl, rfl, hp, hp2, by rw [sizeLine_eq]; omega, fun p1 np1 => ?_⟩
      have s1 := same_upd np1 (o := .lst (xs ++ ys))
      refine ⟨_, rfl, ma, LC, dx, _, .int (most : Nat), rfl, s1 _ _ (s _ _ hm), Lm.cl, Lm.nmo, rfl, _, rfl, p1, _, rfl, SqL.of upd_same, fun p3 np3 => ?_⟩
      rw [cut_take]
      have np3' : H p3 = none := L2.Same.free s1 np3
      refine q _ _ (sm_trans s1 (same_upd np3)) ⟨p3, _, rfl, fun h => hM p3 h np3', L2.Same.free s np3', upd_same, ?_, by rw [List.length_take]; omega⟩
      rw [encL_take, encL_app]
      exact dpa_take _ (dpa_app dp dp2)
  · refine Lm.Frp.okX scLm_rp (fun vs H Q E h => ?_) (fun cdv A outer s0 H vs Q E hr h => ?_)
    · obtain ⟨va, a, n, M, rfl, _⟩ := h
      rfl
    · obtain ⟨va, a, n, M, rfl, s, hM, ⟨p, xs, rfl, _, _, hp, dp, lp⟩, _, hps, q⟩ := h
      have hps : n ≤ 10 ^ 30 := hps
      have q : ∀ H' v, Same H H' → (∃ (p : Addr) (vs : List V), v = .ref p ∧ p ∉ M ∧ H0 p = none ∧ H' p = some (.lst vs) ∧ DpAll K H0 vs (encL ((opsL most).rp a n)) ∧ ((opsL most).rp a n).length ≤ most + 1) → Q v H' := q
      have l1 := dpa_len dp
      rw [encL_len] at l1
      have hl2 := opsL_len (most := most) a n
      refine ⟨_, (pss_cons (ps_if (pt_not (pt_truth (pv 1) (by intro _; rfl)))
        (pss_one (ps_ret (pe_lst pa_nil)))
        pss_nil)
      (pss_one (ps_ret (pe_op op_rep (pv 1) (pe_callB (call_min2 rfl) (by rfl) Lm.zmin (by decide +kernel) (pa_cons (pv 2) (pa_cons (pe_op op_fdiv (pe_fld (pv 0) rfl) (pe_callB call_len_seq (by rfl) Lm.zlen PySem.boot_len (pa_cons (pv 1) pa_nil))) pa_nil))))))), ?_⟩
      refine ⟨_, rfl, _, .inl ⟨xs, SqL.of hp, rfl⟩, ?_⟩
      cases a with
      | nil =>
        have : xs = [] := List.length_eq_zero_iff.mp l1
        subst this
        refine iteT ⟨by show 0 ≤ sizeLine; decide, fun p1 np1 => ?_⟩
        exact q _ _ (same_upd np1) ⟨p1, [], rfl, fun h => hM p1 h np1, L2.Same.free s np1, upd_same, .nil, Nat.zero_le _⟩
      | cons a0 a' =>
        have e : (opsL most).rp (a0 :: a') n = (List.replicate (min n (most / (a0 :: a').length)) (a0 :: a')).flatten := opsL_rp n (List.cons_ne_nil _ _)
        rw [e] at q hl2
        have ne : (!!xs.isEmpty) = false := by
          cases xs with
          | nil => simp at l1
          | cons => rfl
        rw [ne]
        have lpos : 1 ≤ (a0 :: a').length := Nat.le_add_left 1 _
        generalize a0 :: a' = a at *
        refine iteF ⟨_, rfl, _, rfl, _, rfl, ma, LC, dx, _, .int (most : Nat), rfl, s _ _ hm, Lm.cl, Lm.nmo, rfl, _, rfl, p, xs, rfl, .inl (SqL.of hp), _, _, rfl, rfl, ⟨by omega, by omega⟩, _, _, rfl, ?_⟩
        have ek : (if ((most : Nat) : Int) / ((xs.length : Nat) : Int) < ((n : Nat) : Int) then ((most : Nat) : Int) / ((xs.length : Nat) : Int) else ((n : Nat) : Int)) = ((min n (most / a.length) : Nat) : Int) := by
          rw [← l1, ← Int.natCast_ediv]
          split <;> omega
        have hk : min n (most / a.length) ≤ 400 := Nat.le_trans (Nat.min_le_right _ _) (Nat.le_trans (Nat.div_le_self _ _) h4)
        rw [flat_len] at hl2
        generalize min n (most / a.length) = kk at *
        refine ⟨p, (kk : Int), xs, rfl, congrArg V.int ek, hp, by omega, by omega, by rw [Int.toNat_natCast, l1, Nat.mul_comm, sizeLine_eq]; omega, fun p1 np1 => ?_⟩
        rw [Int.toNat_natCast]
        refine q _ _ (same_upd np1) ⟨p1, _, rfl, fun h => hM p1 h np1, L2.Same.free s np1, upd_same, ?_, by rw [flat_len]; exact Nat.le_succ_of_le hl2⟩
        rw [encL_rep]
        exact dpa_rep dp _
def SpQ (K : PySem.W.Frag) (CT : Addr) (H : Hp) (Q : VK) (E : XK) (bk : List Nat → Option (List Stp)) (dn : List Nat → Nat) (rr : List Stp) (most n : Nat) : Prop :=
  if most < n then TMr CT H E (most : Nat) else ∀ H' p vs' l, Same H H' → H p = none → H' p = some (.lst vs') → evR (opsL most) (envOf (opsL most) bk dn) rr [] = some l → DpAll K H' vs' (encL l) → l.length = n → Q (.ref p) H'
def spSpelled (K : PySem.W.Frag) (CT : Addr) : Sp := fun vs H Q E => ∃ (v bv : V) (rr : List Stp) (bk : List Nat → Option (List Stp)) (dn : List Nat → Nat) (most : Nat), vs = [v, bv, .int (most : Nat)] ∧ most ≤ 400 ∧ Dp K H v (encR rr) ∧ wfR rr = true ∧ dpR rr ≤ 12 ∧ szR rr ≤ 60 ∧
  BkIn K H bv bk ∧ (∀ n r, bk n = some r → mdR dn r ≤ dn n) ∧ (∀ n r, bk n = some r → inR bk r) ∧ mdR dn rr ≤ 900 ∧ inR bk rr ∧
  match evR opsN (envOf opsN bk dn) rr 0 with
  | none => TMr CT H E (10 ^ 60)
  | some n => SpQ K CT H Q E bk dn rr most n
theorem ok_spelled {k : Nat} (W : RowD K mg f_w f_n f_nu f_tu f_pl f_gh f_ls f_lb f_ir d_w d_n d_nu d_tu d_pl d_gh d_ls d_lb d_ir) (Y : DF K mg "check_row" sChkRow ["tree"] f_cr d_cr) (R : RkC K mg SC RC g_Si g_Ri g_be g_ad g_do g_st g_fi g_wo e_Si e_Ri e_be e_ad e_do e_st e_fi e_wo) (Cm : CmC K mg CC h_no h_of h_jn h_rp o_no o_of o_jn o_rp) (Lm : LmC K mg LC l_in l_no l_of l_jn l_rp m_in m_no m_of m_jn m_rp) (T : HE K mg CH fH eH) (X : XC K mg "TooMany" "TooMany.__init__" sTMinit "most" CT fT eT) (Ma : DF K mg "made_of" sMadeOf ["maker", "tree", "book"] f_ma d_ma)
    (My : FunD K "many_done" "many_done" (defArgs sMany) (defBody sMany) (defScope sMany) [] [("book", .non)] f_my d_my) (gMy : mg "many_done" = some (.ref f_my)) (kN : KBn K d_my ["tree", "book"] 1 ["book"] (gAp (α := Value)) gAp)
    {kws : List (Str × V)} (F : FunD K "spelled" "spelled" (defArgs sSpelled) (defBody sSpelled) (defScope sSpelled) [] kws f_sp d_sp) : FnOk P w K mg base (L2.CX P w) (k + 34) f_sp d_sp ["tree", "book", "most"] (spSpelled K CT) := by
  have GMy : FnOk P w K mg base (L2.CX P w) (k + 33) f_my d_my ["tree", "book"] (spMany K CT) := ok_many W Y R Cm T X Ma My
  have GM : FnOk P w K mg base (L2.CX P w) (3 + 1 + 7) f_ma d_ma ["maker", "tree", "book"] (spMa P w K mg base (List Stp) (3 + 1) SC RC) := ok_Ma R Ma
  have GTM : FnOk P w K mg base CX0 (0 + 2) fT eT ["self", "most"] (sp1 K "most" "toomany") := ok_TM T X.F
  have GLi : FnOk P w K mg base CX0 (0 + 1) l_in m_in ["self", "most"] (spLin LC) := ok_Lin Lm
  refine F.ok scSpelled (fun vs H Q E h => ?_) (fun cdv A outer s0 H vs Q E hr h => ?_)
  · obtain ⟨v, bv, rr, bk, dn, most, rfl, _⟩ := h
    rfl
  · obtain ⟨v, bv, rr, bk, dn, most, rfl, h4, hd, hw, hdp, hsz, hbk, md, ok, hmd, hok, q⟩ := h
    have r2 : Room (0 + 1 + 1) _ := hr.mono (by omega)
    have r3 : Room (0 + 3) _ := hr.mono (by omega)
    have r11 : Room (3 + 1 + 7) _ := hr.mono (by omega)
    refine ⟨_, (pss_cons (ps_if (pt_cmpR op_gt (pe_callN (E := E) (ks := ["book"]) GMy hr rfl gMy My.kp kN (passes_call (takes_of rfl rfl rfl rfl) (fun _ _ _ _ h => h)) (pa_cons (pv 0) pa_nil) (pk_cons (pv 1) pk_nil)) (pv 2) (nomark _))
        (pss_one (ps_raise rfl (takes_of rfl rfl rfl rfl) (pmk_oex X.O X.iC X.tI GTM r3 X.b .nil pass0 (by rfl) X.gC (pa_cons (pv 2) pa_nil))))
        pss_nil)
      (pss_one (ps_ret (pe_call (E := E) GM r11 rfl Ma.g Ma.F.kp Ma.b .nil (passes_call (takes_of rfl rfl rfl rfl) (fun _ _ _ _ h => h)) (pa_cons (pe_make Lm.mk0 GLi r2 (by rfl) Lm.gC Lm.bin .nil pass0 (pa_cons (pv 2) pa_nil)) (pa_cons (pv 0) (pa_cons (pv 1) pa_nil))))))), ?_⟩
    refine ⟨_, rfl, _, rfl, rfl, rfl, v, bv, rr, bk, dn, rfl, hd, hw, hdp, hsz, hbk, md, ok, hmd, hok, ?_⟩
    cases e : evR opsN (envOf opsN bk dn) rr 0 with
    | none =>
      rw [e] at q
      exact q
    | some n =>
      rw [e] at q
      have q : SpQ K CT H Q E bk dn rr most n := q
      unfold SpQ at q
      intro H1 s1
      refine ⟨_, rfl, _, _, rfl, rfl, _, rfl, ?_⟩
      by_cases big : most < n
      · rw [if_pos big] at q
        rw [decide_eq_true (by omega)]
        exact iteT ⟨_, rfl, by show 1 ≤ 1000; decide, mk1 X.O X.hw X.hf fun d H4 s4 n4 e4 => q H4 d (sm_trans s1 s4) (L2.Same.free s1 n4) e4⟩
      · rw [if_neg big] at q
        rw [decide_eq_false (by omega)]
        refine iteF ⟨_, rfl, fun x dx nx ndx ne => ⟨x, dx, _, rfl, upd_same, rfl, ?_⟩⟩
        have s2 : Same H1 (upd (upd (upd H1 dx (.own x)) x (.ins LC dx [])) x (.ins LC dx [("most", .int (most : Nat))])) := by
          rw [L2.upd_upd]
          exact sm_trans (same_upd ndx) (same_upd (by rw [upd_ne (Ne.symm ne)]; exact nx))
        have ex : (upd (upd (upd H1 dx (.own x)) x (.ins LC dx [])) x (.ins LC dx [("most", .int (most : Nat))])) x = some (.ins LC dx [("most", .int (most : Nat))]) := upd_same
        generalize (upd (upd (upd H1 dx (.own x)) x (.ins LC dx [])) x (.ins LC dx [("most", .int (most : Nat))])) = H2 at s2 ex ⊢
        have s12 := sm_trans s1 s2
        obtain ⟨m, hm⟩ := run_whole (bkOk_of (opsL most) md ok) hmd hok
        obtain ⟨l, hl, hlen⟩ := simR (simNL most (.inr trivial)) (fun n x e => sim_env (simNL most (.inr trivial)) bk _ n x e) rr 0 n [] (fun _ => rfl) e
        have hlen := hlen (by omega)
        have hl : evR (opsL most) (envOf (opsL most) bk dn) rr [] = some l := hl
        refine ⟨_, rfl, _, rfl, x, v, bv, rr, m, rfl, (hbk.same s12).split fun bo bkvs H3 s3 hbo hl2 hi => ?_⟩
        refine ⟨cfgL K most SC RC x bo H3 bk bkvs, rfl, rfl, rfl, ok_lst R Lm h4 (s3 _ _ ex) hbo hl2 hi, dp_same (sm_trans s12 s3) hd, alR_wf _ hw, ?_⟩
        have s13 := sm_trans s12 s3
        rw [show (opsL most).w0 = [] from rfl, hl] at hm
        have hm : runM (cfgL K most SC RC x bo H3 bk bkvs).O (cfgL K most SC RC x bo H3 bk bkvs).bk m ⟨[⟨rr, none, 1, (cfgL K most SC RC x bo H3 bk bkvs).O.w0⟩], fun _ => none⟩ = .done l := hm
        rw [hm]
        rintro H4 v4 s4 ⟨p, vs', rfl, _, n3, e4, d4, _⟩
        exact q H4 p vs' l (sm_trans s13 s4) (L2.Same.free s13 n3) e4 hl (dpa_same s4 d4) hlen
end
end NC
namespace NC
open PySem PySem.Spec PyProof.Rows L2
theorem op_mul_str {X : Cx} : OpR X (binaryOp .Mult) (fun x y H Q => ∃ i n, x = .str i ∧ y = .int n ∧ MulOk i n ∧ Q (.str (Txt.mul i n)) H) := by
  intro pins s σ H x y v u Q I rx ry h
  obtain ⟨i, n, rfl, rfl, ok, q⟩ := h
  obtain ⟨t, rfl⟩ := rx
  obtain ⟨t', rfl⟩ := ry
  exact PySem.SB.mul ok (fun t' k => ⟨.str _, H, I.tok _, ⟨_, rfl⟩, q⟩)
theorem rep_arr (c : Nat) : ∀ (n : Nat) (a : Array Nat), (List.replicate n #[c]).foldl (· ++ ·) a = a ++ (List.replicate n c).toArray
  | 0, a => by simp
  | n + 1, a => by
    rw [List.replicate_succ, List.foldl_cons, rep_arr c n, List.replicate_succ, Array.append_assoc]
    congr 1
    apply Array.ext'
    simp
theorem mul_sg {c n : Nat} (h : 1 ≤ n) : Txt.mul ⟨#[c]⟩ (n : Int) = ⟨(List.replicate n c).toArray⟩ := by
  unfold Txt.mul
  rw [if_neg (by omega)]
  by_cases e : n = 1
  · subst e
    rfl
  · rw [if_neg (by show ¬ (((n : Int) == 1) || (1 == 0)) = true; simp; omega), Int.toNat_natCast]
    show Str.mk _ = Str.mk _
    congr 1
    rw [rep_arr]
    simp
end NC
namespace NC
open PySem PySem.Spec PyProof.Rows L2
abbrev sNumber : Stmt := topS 41
abbrev nNumber : List Str := ["_law_d"]
theorem scNumber : FnScope nNumber ["_law_d"] (defScope sNumber) := ⟨rfl, rfl, rfl, by decide +kernel, rfl, by decide +kernel, by decide +kernel⟩
abbrev sNames : Stmt := topS 42
abbrev nNames : List Str := ["_law_d", "_law_many", "_law_stem", "_law_spot", "_law_start_here", "_law_k"]
theorem scNames : FnScope nNames ["_law_d", "_law_many"] (defScope sNames) := ⟨rfl, rfl, rfl, by decide +kernel, rfl, by decide +kernel, by decide +kernel⟩
abbrev sFlat : Stmt := topS 43
abbrev nFlat : List Str := ["_law_steps"]
theorem scFlat : FnScope nFlat ["_law_steps"] (defScope sFlat) := ⟨rfl, rfl, rfl, by decide +kernel, rfl, by decide +kernel, by decide +kernel⟩
abbrev sCount : Stmt := topS 44
abbrev nCount : List Str := ["_law_book_it", "_law_known", "_law_tree", "_law_many", "_law_step", "_law_inner"]
theorem scCount : FnScope nCount ["_law_book_it", "_law_known", "_law_tree"] (defScope sCount) := ⟨rfl, rfl, rfl, by decide +kernel, rfl, by decide +kernel, by decide +kernel⟩
abbrev sTower : Stmt := topS 45
abbrev nTower : List Str := ["_law_d", "_law_names_here", "_law_k", "_law_steps", "_law_turn", "_law_how", "_law_tree"]
theorem scTower : FnScope nTower ["_law_d", "_law_names_here", "_law_k"] (defScope sTower) := ⟨rfl, rfl, rfl, by decide +kernel, rfl, by decide +kernel, by decide +kernel⟩
/-- things that may change -/
def Mut (o : HO) : Prop := (∃ xs, o = .lst xs) ∨ (∃ C dx fs, o = .ins C dx fs) ∨ ∃ kvs, o = .dK kvs
theorem smx_t {K : PySem.W.Frag} {p a : Addr} {H H' : Hp} {o : HO} {xs : List V} (s : SmX p H H') (e : H p = some o) (m : Mut o) (h : SqT K H a xs) : SqT K H' a xs := by
  rcases h with (h | ⟨o', h⟩) | h
  · refine .inl (.inl (s _ _ (fun z => ?_) h))
    rw [z, e] at h
    rcases m with ⟨_, rfl⟩ | ⟨_, _, _, rfl⟩ | ⟨_, rfl⟩ <;> cases h
  · refine .inl (.inr ⟨o', s _ _ (fun z => ?_) h⟩)
    rw [z, e] at h
    rcases m with ⟨_, rfl⟩ | ⟨_, _, _, rfl⟩ | ⟨_, rfl⟩ <;> cases h
  · exact .inr h
mutual
/-- no lists in it -/
def noL : PyData → Bool
  | .list _ => false
  | .tuple xs => noLA xs
  | _ => true
def noLA : List PyData → Bool
  | [] => true
  | x :: xs => noL x && noLA xs
end
mutual
theorem dp_smx {K : PySem.W.Frag} {p : Addr} {H H' : Hp} {o : HO} (s : SmX p H H') (e : H p = some o) (m : Mut o) : ∀ {v : V} {d : PyData}, noL d = true → Dp K H v d → Dp K H' v d
  | _, _, _, .non => .non
  | _, _, _, .bl b => .bl b
  | _, _, _, .int i => .int i
  | _, _, _, .str x => .str x
  | _, _, n, .lst h a => by rw [noL] at n; cases n
  | _, _, n, .tup h a => .tup (smx_t s e m h) (dpa_smx s e m (by rw [noL] at n; exact n) a)
theorem dpa_smx {K : PySem.W.Frag} {p : Addr} {H H' : Hp} {o : HO} (s : SmX p H H') (e : H p = some o) (m : Mut o) : ∀ {vs : List V} {ds : List PyData}, noLA ds = true → DpAll K H vs ds → DpAll K H' vs ds
  | _, _, _, .nil => .nil
  | _, _, n, .cons a b => by
    rw [noLA, Bool.and_eq_true] at n
    exact .cons (dp_smx s e m n.1 a) (dpa_smx s e m n.2 b)
end
mutual
theorem noL_encS : ∀ s : Stp, noL (encS s) = true
  | .call s => by rw [encS]; rfl
  | .turn s => by rw [encS]; rfl
  | .row s => by rw [encS]; rfl
  | .times m r => by
    rw [encS]
    simp only [noL, noLA, noL_encL r, Bool.true_and, Bool.and_true]
theorem noL_encL : ∀ r : List Stp, noLA (encL r) = true
  | [] => by rw [encL, noLA]
  | s :: r => by rw [encL, noLA, noL_encS s, noL_encL r]; rfl
end
theorem noL_encR (r : List Stp) : noL (encR r) = true := by
  unfold encR
  simp only [noL, noLA, noL_encL r, Bool.true_and, Bool.and_true]
theorem dpa_snoc {K : PySem.W.Frag} {H : Hp} : ∀ {vs : List V} {ds : List PyData} {v : V} {d : PyData}, DpAll K H vs ds → Dp K H v d → DpAll K H (vs ++ [v]) (ds ++ [d])
  | _, _, _, _, .nil, h => .cons h .nil
  | _, _, _, _, .cons a b, h => .cons a (dpa_snoc b h)
theorem encL_snoc (r : List Stp) (x : Stp) : encL (r ++ [x]) = encL r ++ [encS x] := by
  rw [encL_map, encL_map, List.map_append]
  rfl
theorem ltrs_len : ltrs.length = 26 := by decide +kernel
theorem ltrs_sm {c : Nat} (h : c ∈ ltrs) : c ∈ smN := by
  obtain ⟨i, hi, e⟩ := List.getElem_of_mem h
  have := ltrs_at (List.getElem?_eq_getElem hi)
  rw [smN_iff]
  omega
theorem cut_from (l : List Nat) (j : Nat) : cutS (tx l) (some ((j : Nat) : Int)) none = tx (l.drop j) := by
  unfold cutS
  rw [HT.sIx_none, HT.sIx_nat, tx_list, tx_len]
  rcases Nat.le_total j l.length with h | h
  · rw [Nat.min_eq_left h, List.take_of_length_le (by rw [List.length_drop]; exact Nat.le_refl _)]
    rfl
  · rw [Nat.min_eq_right h, List.drop_of_length_le h, List.drop_of_length_le (Nat.le_refl _), List.take_nil]
    rfl
theorem cutS_to (l : List Nat) (j : Nat) : cutS (tx l) none (some ((j : Nat) : Int)) = tx (l.take j) := by
  unfold cutS
  rw [HT.sIx_none, HT.sIx_nat, tx_list, tx_len, List.drop_zero, Nat.sub_zero]
  rcases Nat.le_total j l.length with h | h
  · rw [Nat.min_eq_left h]
    rfl
  · rw [Nat.min_eq_right h, List.take_of_length_le (Nat.le_refl _), List.take_of_length_le h]
    rfl
theorem mulok1 (c : Nat) : ∀ b : Nat, b < 7 → MulOk (⟨#[c]⟩ : Str) ((b : Nat) : Int) := by
  intro b hb
  unfold MulOk
  rw [show (⟨#[c]⟩ : Str).length = 1 from rfl]
  revert b
  decide +kernel
/-- six names of one sign more, at one place -/
structure NmOk (nm : Nat → List Nat) : Prop where
  lo : ∀ i, i < 6 → 1 ≤ (nm i).length
  hi : ∀ i, i < 6 → (nm i).length ≤ 8
  sm : ∀ i, i < 6 → ∀ c ∈ nm i, c ∈ smN
  inj : ∀ i j, i < 6 → j < 6 → nm i = nm j → i = j
def nmOf (pre suf : List Nat) (s : Nat) (i : Nat) : List Nat := pre ++ [97 + (s + 7 * i) % 26] ++ suf
theorem nmOk_of {pre suf : List Nat} {s : Nat} (h1 : ∀ c ∈ pre, c ∈ smN) (h2 : ∀ c ∈ suf, c ∈ smN) (hl : pre.length + suf.length ≤ 7) : NmOk (nmOf pre suf s) where
  lo := fun i _ => by
    unfold nmOf
    rw [List.length_append, List.length_append, List.length_singleton]
    omega
  hi := fun i _ => by
    unfold nmOf
    rw [List.length_append, List.length_append, List.length_singleton]
    omega
  sm := fun i _ c hc => by
    unfold nmOf at hc
    rcases List.mem_append.mp hc with hc | hc
    · rcases List.mem_append.mp hc with hc | hc
      · exact h1 c hc
      · rw [List.mem_singleton.mp hc, smN_iff]
        omega
    · exact h2 c hc
  inj := fun i j hi hj e => by
    unfold nmOf at e
    have e := List.append_cancel_left (List.append_cancel_right e)
    have e : 97 + (s + 7 * i) % 26 = 97 + (s + 7 * j) % 26 := List.cons.inj e |>.1
    omega
def dnOk (nm : Nat → List Nat) (k : Nat) (dn : List Nat → Nat) (bk : List Nat → Option (List Stp)) : Prop := ∀ i, i < k → dn (nm i) = 2 * i + 3 ∧ (bk (nm i)).isSome = true
structure StOk (nm : Nat → List Nat) (k : Nat) (s : Stp) : Prop where
  w : wfS s = true
  d : dpS s ≤ 3
  z : szS s ≤ 5
  m : ∀ dn bk, dnOk nm k dn bk → mdS dn s ≤ 2 * k + 3 ∧ inS bk s
structure TowOk (nm : Nat → List Nat) (k : Nat) (r : List Stp) : Prop where
  w : wfR r = true
  d : dpR r ≤ 12
  z : szR r ≤ 60
  m : ∀ dn bk, dnOk nm k dn bk → mdR dn r ≤ 2 * k + 3 ∧ inR bk r
theorem mdR_le {dn : List Nat → Nat} {d : Nat} : ∀ {r : List Stp}, (∀ s ∈ r, mdS dn s ≤ d) → mdR dn r ≤ d
  | [], _ => by rw [mdR]; omega
  | s :: r, h => by
    rw [mdR]
    have := h s (List.mem_cons_self ..)
    have := mdR_le fun x hx => h x (List.mem_cons_of_mem _ hx)
    omega
theorem inR_of {bk : List Nat → Option (List Stp)} : ∀ {r : List Stp}, (∀ s ∈ r, inS bk s) → inR bk r
  | [], _ => by rw [inR]; exact trivial
  | s :: r, h => by rw [inR]; exact ⟨h s (List.mem_cons_self ..), inR_of fun x hx => h x (List.mem_cons_of_mem _ hx)⟩
theorem inR_mem {bk : List Nat → Option (List Stp)} : ∀ {r : List Stp}, inR bk r → ∀ s ∈ r, inS bk s
  | s :: r, h, x, hx => by
    rw [inR] at h
    rcases List.mem_cons.mp hx with rfl | hx
    · exact h.1
    · exact inR_mem h.2 x hx
theorem mdR_mem {dn : List Nat → Nat} : ∀ {r : List Stp} {s : Stp}, s ∈ r → mdS dn s ≤ mdR dn r
  | x :: r, s, h => by
    rw [mdR]
    rcases List.mem_cons.mp h with rfl | h
    · omega
    · have := mdR_mem (dn := dn) h
      omega
theorem szR_le {n : Nat} : ∀ {r : List Stp}, (∀ s ∈ r, szS s ≤ n) → szR r ≤ r.length * n
  | [], _ => by rw [szR]; omega
  | s :: r, h => by
    rw [szR, List.length_cons, Nat.add_mul]
    have := h s (List.mem_cons_self ..)
    have := szR_le fun x hx => h x (List.mem_cons_of_mem _ hx)
    omega
theorem szR_mem1 : ∀ {r : List Stp} {s : Stp}, s ∈ r → szS s ≤ szR r
  | x :: r, s, h => by
    rw [szR]
    rcases List.mem_cons.mp h with rfl | h
    · omega
    · have := szR_mem1 h
      omega
theorem tow_of {nm : Nat → List Nat} {k : Nat} {r : List Stp} (h : ∀ s ∈ r, StOk nm k s) (hl : r.length ≤ 12) : TowOk nm k r where
  w := wfR_of fun s hs => (h s hs).w
  d := dpR_le fun s hs => Nat.le_trans (h s hs).d (by decide)
  z := by
    have := szR_le (n := 5) fun s hs => (h s hs).z
    omega
  m := fun dn bk ok => ⟨mdR_le fun s hs => ((h s hs).m dn bk ok).1, inR_of fun s hs => ((h s hs).m dn bk ok).2⟩
structure NsOk (i : Nat) (r : List Stp) : Prop where
  w : wfR r = true
  d : dpR r ≤ i
  z : szR r ≤ 2 + i
  l : r.length ≤ 2
  m : ∀ dn bk, mdR dn r ≤ i ∧ inR bk r
theorem ns_zero (j : Nat) (h : j ≤ 2) : NsOk 0 (List.replicate j (.call [])) := by
  match j, h with
  | 0, _ => exact ⟨by decide, by decide, by decide, by decide, fun dn bk => ⟨Nat.le_refl _, by simp [inR]⟩⟩
  | 1, _ => exact ⟨by decide, by decide, by decide, by decide, fun dn bk => ⟨by simp [List.replicate, mdR, mdS], by simp [List.replicate, inR, inS]⟩⟩
  | 2, _ => exact ⟨by decide, by decide, by decide, by decide, fun dn bk => ⟨by simp [List.replicate, mdR, mdS], by simp [List.replicate, inR, inS]⟩⟩
theorem ns_succ {i m : Nat} {r : List Stp} (h : NsOk i r) (hm : m ≤ 10 ^ 30) : NsOk (i + 1) [.times m r] where
  w := by rw [wfR, wfS, wfR, h.w, decide_eq_true hm]; rfl
  d := by
    have := h.d
    rw [dpR, dpS, dpR]; omega
  z := by
    have := h.z
    rw [szR, szS, szR]; omega
  l := Nat.le_succ 1
  m := fun dn bk => by
    have := h.m dn bk
    rw [mdR, mdS, mdR, inR, inS, inR]
    exact ⟨by omega, this.2, trivial⟩
theorem ns_st {i k : Nat} {nm : Nat → List Nat} {r : List Stp} (h : NsOk i r) (hi : i ≤ 3) : ∀ s ∈ r, StOk nm k s := fun s hs => ⟨wfR_mem h.w s hs, Nat.le_trans (dpR_mem hs) (Nat.le_trans h.d hi), Nat.le_trans (szR_mem1 hs) (by have := h.z; omega), fun dn bk _ => ⟨Nat.le_trans (mdR_mem hs) (by have := (h.m dn bk).1; omega), inR_mem (h.m dn bk).2 s hs⟩⟩
theorem st_call {nm : Nat → List Nat} {k : Nat} {t : List Nat} (h : t = [] ∨ t = [97]) : StOk nm k (.call t) := ⟨by rcases h with rfl | rfl <;> decide +kernel, by rw [dpS] <;> simp, by rw [szS] <;> simp, fun dn bk _ => ⟨by rw [mdS]; omega, by rw [inS]; exact trivial⟩⟩
theorem st_row {nm : Nat → List Nat} (N : NmOk nm) {k i : Nat} (hk : k < 6) (h : i < k) : StOk nm k (.row (nm i)) := by
  refine ⟨?_, by rw [dpS] <;> simp, by rw [szS] <;> simp, fun dn bk ok => ?_⟩
  · rw [wfS, decide_eq_true (N.lo i (by omega)), decide_eq_true (N.hi i (by omega))]
    exact all_dec.mpr (N.sm i (by omega))
  · have := ok i h
    rw [mdS, inS, this.1]
    exact ⟨by omega, this.2⟩
theorem st_times {nm : Nat → List Nat} (N : NmOk nm) {k m : Nat} (hk : k < 6) (h0 : 0 < k) (hm : m ≤ 10 ^ 30) : StOk nm k (.times m [.row (nm (k - 1)), .turn [97]]) := by
  have r := st_row N hk (show k - 1 < k by omega)
  refine ⟨?_, by rw [dpS, dpR, dpR, dpR, dpS, dpS] <;> simp, by rw [szS, szR, szR, szR, szS, szS] <;> simp, fun dn bk ok => ?_⟩
  · rw [wfS, wfR, wfR, wfR, r.w, decide_eq_true hm]
    decide +kernel
  · have := ok (k - 1) (by omega)
    rw [mdS, mdR, mdR, mdR, mdS, mdS, inS, inR, inR, inR, inS, inS, this.1]
    exact ⟨by omega, this.2, trivial, trivial⟩
def tHK : TT := fun σ H Q => ∃ (h j : Int), σ[5]? = some (some (.int h)) ∧ σ[2]? = some (some (.int j)) ∧ Q (decide (h = 0 ∨ j = 0)) H
theorem imp_HK : ∀ (σ : L2.St) (H : Hp) (Q : Bool → Hp → Prop), tHK σ H Q → tOr (tTest (tOp rEq (tVar 5) (tC (.int 0)))) (tTest (tOp rEq (tVar 2) (tC (.int 0)))) σ H Q := by
  rintro σ H Q ⟨h, j, e5, e2, q⟩
  refine ⟨_, e5, rfl, _, rfl, ?_⟩
  by_cases c : h = 0
  · rw [show decide (V.int h = V.int 0) = true from decide_eq_true (by rw [c])]
    rw [decide_eq_true (.inl c)] at q
    exact iteT q
  · rw [show decide (V.int h = V.int 0) = false from decide_eq_false fun z => by injection z with z; exact c z]
    refine iteF ⟨_, e2, rfl, _, rfl, ?_⟩
    by_cases c2 : j = 0
    · rw [show decide (V.int j = V.int 0) = true from decide_eq_true (by rw [c2])]
      rw [decide_eq_true (.inr c2)] at q
      exact q
    · rw [show decide (V.int j = V.int 0) = false from decide_eq_false fun z => by injection z with z; exact c2 z]
      rw [decide_eq_false (fun z => z.elim c c2)] at q
      exact q
def tKD : TT := fun σ H Q => ∃ (d : Addr) (j : Int), σ[0]? = some (some (.ref d)) ∧ σ[2]? = some (some (.int j)) ∧ Dr H d ∧ ∀ H' b, SmD d H H' → Dr H' d → (b = true → 0 < j) → Q b H'
theorem imp_KD : ∀ (σ : L2.St) (H : Hp) (Q : Bool → Hp → Prop), tKD σ H Q → tAnd (tTest (tOp (rI0 fun i j => .bl (decide (j < i))) (tVar 2) (tC (.int 0)))) (tTest (tOp rEq (tCall spDraw [] E0 (tCons (tVar 0) (tCons (tC (.int 3)) tNil))) (tC (.int 0)))) σ H Q := by
  rintro σ H Q ⟨d, j, e0, e2, D, q⟩
  refine ⟨_, e2, _, _, rfl, rfl, _, rfl, ?_⟩
  by_cases c : 0 < j
  · rw [decide_eq_true c]
    refine iteT ⟨_, e0, d, 3, rfl, D, by decide, by decide, fun H1 a s1 D1 a0 a1 => ⟨rfl, _, rfl, q H1 _ s1 D1 fun _ => c⟩⟩
  · rw [decide_eq_false c]
    exact iteF (q H false (SmD.of fun _ _ h => h) D nofun)
/-- the law's own defs about rows -/
structure RL (K : PySem.W.Frag) (mg : Str → Option Value) (f_of f_draw f_letters f_number f_names f_flat f_count f_tower : Addr) (d_of d_draw d_letters d_number d_names d_flat d_count d_tower : FuncData) : Prop where
  of : DF K mg "_law_of" sOf ["_law_d", "_law_some"] f_of d_of
  draw : DF K mg "_law_draw" sDraw ["_law_d", "_law_many"] f_draw d_draw
  letters : DF K mg "_law_letters" sLetters [] f_letters d_letters
  number : DF K mg "_law_number" sNumber ["_law_d"] f_number d_number
  names : DF K mg "_law_names" sNames ["_law_d", "_law_many"] f_names d_names
  flat : DF K mg "_law_flat_tree" sFlat ["_law_steps"] f_flat d_flat
  count : DF K mg "_law_count" sCount ["_law_book_it", "_law_known", "_law_tree"] f_count d_count
  tower : DF K mg "_law_tower" sTower ["_law_d", "_law_names_here", "_law_k"] f_tower d_tower
section
variable {P : Program} {w : World} {K : PySem.W.Frag} {mg : Str → Option Value} {base : Heap} {f_of f_draw f_letters f_number f_names f_flat f_count f_tower : Addr} {d_of d_draw d_letters d_number d_names d_flat d_count d_tower : FuncData}
def spNumR : Sp := fun vs H Q _ => ∃ d, vs = [.ref d] ∧ Dr H d ∧ ∀ H' (n : Nat), SmD d H H' → Dr H' d → n ≤ 10 ^ 30 → Q (.int (n : Nat)) H'
theorem ok_numR {k : Nat} (B : BM mg) (L : RL K mg f_of f_draw f_letters f_number f_names f_flat f_count f_tower d_of d_draw d_letters d_number d_names d_flat d_count d_tower) : FnOk P w K mg base CX0 (k + 3) f_number d_number ["_law_d"] spNumR := by
  have GD : FnOk P w K mg base CX0 (k + 1) f_draw d_draw ["_law_d", "_law_many"] spDraw := ok_draw B L.draw.F
  have GO : FnOk P w K mg base CX0 (k + 2) f_of d_of ["_law_d", "_law_some"] (spOf K) := ok_of B L.of.F L.draw
  refine L.number.F.ok scNumber (fun vs H Q E h => ?_) (fun cdv A outer st H vs Q E hr h => ?_)
  · obtain ⟨d, rfl, _⟩ := h
    rfl
  · obtain ⟨d, rfl, hD, q⟩ := h
    have r1 : Room (k + 1) _ := hr.mono (by omega)
    refine ⟨_, (pss_one (ps_ret (pe_call GO hr rfl L.of.g L.of.F.kp L.of.b .nil pass0 (pa_cons (pv 0) (pa_cons (pe_lst (pa_cons pe_int (pa_cons pe_int (pa_cons pe_int (pa_cons pe_int (pa_cons (pe_call GD r1 rfl L.draw.g L.draw.F.kp L.draw.b .nil pass0 (pa_cons (pv 0) (pa_cons pe_int pa_nil))) (pa_cons (pe_op op_add (pe_op op_pow pe_int pe_int) (pe_call GD r1 rfl L.draw.g L.draw.F.kp L.draw.b .nil pass0 (pa_cons (pv 0) (pa_cons (pe_op op_pow pe_int pe_int) pa_nil)))) (pa_cons (pe_op op_sub (pe_op op_pow pe_int pe_int) (pe_call GD r1 rfl L.draw.g L.draw.F.kp L.draw.b .nil pass0 (pa_cons (pv 0) (pa_cons pe_int pa_nil)))) pa_nil)))))))) pa_nil))))), ?_⟩
    refine ⟨_, rfl, _, rfl, d, 40, rfl, hD, by decide, by decide, fun H1 a s1 D1 a0 a1 => ?_⟩
    refine ⟨_, _, rfl, rfl, ⟨by decide, by decide, by decide⟩, _, rfl, _, _, rfl, rfl, ⟨by decide, by decide, by decide⟩, d, _, rfl, D1, by decide, by decide, fun H2 b s2 D2 b0 b1 => ⟨_, _, rfl, rfl, ?_⟩⟩
    refine ⟨_, _, rfl, rfl, ⟨by decide, by decide, by decide⟩, _, rfl, d, 1000, rfl, D2, by decide, by decide, fun H3 c s3 D3 c0 c1 => ⟨_, _, rfl, rfl, ?_⟩⟩
    refine ⟨by show 7 ≤ sizeLine; decide, fun p np => ?_⟩
    have s4 : Same H3 (upd H3 p (.lst [.int 0, .int 1, .int 2, .int 3, .int a, .int (10 ^ (9 : Int).toNat + b), .int (10 ^ (30 : Int).toNat - c)])) := same_upd np
    refine ⟨d, _, rfl, D3.same s4, .inl ⟨p, _, rfl, D3.ne np, SqL.of upd_same, by show 1 ≤ 7; decide, by show 7 ≤ 1000; decide, fun H5 v j s5 D5 hv => ?_⟩⟩
    have h9 : (10 : Int) ^ (9 : Int).toNat = 1000000000 := by decide
    have b1 : b < 1000000 := b1
    have h30 : (10 : Int) ^ (30 : Int).toNat = ((10 ^ 30 : Nat) : Int) := by decide
    have sA : SmD d H H5 := ((s1.trans s2).trans s3).trans ((SmD.of s4).trans s5)
    have fin : ∀ n : Int, 0 ≤ n → n ≤ ((10 ^ 30 : Nat) : Int) → Q (.int n) H5 := fun n h0 h1 => by
      have e : n = ((n.toNat : Nat) : Int) := by omega
      rw [e]
      exact q H5 n.toNat sA D5 (by omega)
    match j, hv with
    | 0, hv => cases hv; exact fin _ (by decide) (by decide)
    | 1, hv => cases hv; exact fin _ (by decide) (by decide)
    | 2, hv => cases hv; exact fin _ (by decide) (by decide)
    | 3, hv => cases hv; exact fin _ (by decide) (by decide)
    | 4, hv => cases hv; exact fin _ a0 (by omega)
    | 5, hv => cases hv; rw [h9]; exact fin _ (by omega) (by omega)
    | 6, hv => cases hv; rw [h30]; exact fin _ (by omega) (by omega)
def spFlat (K : PySem.W.Frag) : Sp := fun vs H Q _ => ∃ (l : Addr) (xs : List V) (r : List Stp), vs = [.ref l] ∧ SqL K H l xs ∧ DpAll K H xs (encL r) ∧ ∀ H' v, Same H H' → Dp K H' v (encR r) → Q v H'
theorem ok_flat {k : Nat} (B : BM mg) (L : RL K mg f_of f_draw f_letters f_number f_names f_flat f_count f_tower d_of d_draw d_letters d_number d_names d_flat d_count d_tower) : FnOk P w K mg base CX0 (k + 1) f_flat d_flat ["_law_steps"] (spFlat K) := by
  refine L.flat.F.ok scFlat (fun vs H Q E h => ?_) (fun cdv A outer st H vs Q E hr h => ?_)
  · obtain ⟨l, xs, r, rfl, _⟩ := h
    rfl
  · obtain ⟨l, xs, r, rfl, hl, hd, q⟩ := h
    refine ⟨_, (pss_one (ps_ret (pe_tup (pa_cons pe_str (pa_cons (pe_tupleOf (by rfl) B.tuple (pv 0)) pa_nil))))), ?_⟩
    refine ⟨_, rfl, .inl ⟨l, xs, rfl, hl, fun p1 np1 => ⟨by show 2 ≤ sizeLine; decide, fun p2 np2 => ?_⟩⟩⟩
    have s5 : Same H (upd (upd H p1 (.tup xs)) p2 (.tup [.str "steps", .ref p1])) := sm_trans (same_upd np1) (same_upd np2)
    have np1' : p1 ≠ p2 := ne_of_none upd_same np2
    exact q _ _ s5 (.tup (SqT.of upd_same) (.cons (.str _) (.cons (.tup (SqT.of (by rw [upd_ne np1', upd_same])) (dpa_same s5 hd)) .nil)))
def nmV6 (nm : Nat → List Nat) : List V := (List.range 6).map fun i => V.str (tx (nm i))
def spNames : Sp := fun vs H Q _ => ∃ (d : Addr), vs = [.ref d, .int 6] ∧ Dr H d ∧ ∀ H' p nm, SmD d H H' → Dr H' d → H p = none → H' p = some (.lst (nmV6 nm)) → NmOk nm → Q (.ref p) H'
theorem ok_names {k : Nat} (B : BM mg) (L : RL K mg f_of f_draw f_letters f_number f_names f_flat f_count f_tower d_of d_draw d_letters d_number d_names d_flat d_count d_tower) : FnOk P w K mg base CX0 (k + 2) f_names d_names ["_law_d", "_law_many"] spNames := by
  have GD : FnOk P w K mg base CX0 (k + 1) f_draw d_draw ["_law_d", "_law_many"] spDraw := ok_draw B L.draw.F
  have GLe : FnOk P w K mg base CX0 (k + 1) f_letters d_letters [] (fun vs H Q _ => vs = [] ∧ Q (.str (tx ltrs)) H) := ok_letters L.letters.F
  refine L.names.F.ok scNames (fun vs H Q E h => ?_) (fun cdv A outer st H vs Q E hr h => ?_)
  · obtain ⟨d, rfl, _⟩ := h
    rfl
  · obtain ⟨d, rfl, hD, q⟩ := h
    have nd := scNames.nd
    have r1 : Room (k + 1) _ := hr
    have lt := ltrs_len
    refine ⟨_, (pss_cons (ps_set (i := 2) nd rfl (.inr rfl) (pe_op op_mul_str (pe_ix ix_str (pe_call0 GLe r1 rfl L.letters.g L.letters.F.kp L.letters.b .nil pass0) (pe_call GD r1 rfl L.draw.g L.draw.F.kp L.draw.b .nil pass0 (pa_cons (pv 0) (pa_cons pe_int pa_nil))) (fun _ _ => rfl)) (pe_call GD r1 rfl L.draw.g L.draw.F.kp L.draw.b .nil pass0 (pa_cons (pv 0) (pa_cons pe_int pa_nil)))))
      (pss_cons (ps_set (i := 3) nd rfl (.inr rfl) (pe_call GD r1 rfl L.draw.g L.draw.F.kp L.draw.b .nil pass0 (pa_cons (pv 0) (pa_cons (pe_op op_add (pe_callB call_len_str (by rfl) B.len PySem.boot_len (pa_cons (pv 2) pa_nil)) pe_int) pa_nil))))
      (pss_cons (ps_set (i := 4) nd rfl (.inr rfl) (pe_call GD r1 rfl L.draw.g L.draw.F.kp L.draw.b .nil pass0 (pa_cons (pv 0) (pa_cons pe_int pa_nil))))
      (pss_one (ps_ret (pe_lc (own := [("_law_k", 5)]) (g := gName 5) (tt := tYes) (te := _) rfl nd (pi_range1 (by rfl) B.range (pa_cons (pv 1) pa_nil)) (blkOk_by (N := nNames) (sc := defScope sNames) (by decide +kernel)) (fun _ _ _ _ _ => pg_name (i := 5) nd rfl (Or.inl rfl)) (fun _ _ _ _ _ => pts_nil) (fun _ _ _ _ _ => (pe_op op_add_str (pe_op op_add_str (pe_slice sl_str (pv 2) po_none (po_some (pv 3))) (pe_ix ix_str (pe_call0 GLe r1 rfl L.letters.g L.letters.F.kp L.letters.b .nil pass0) (pe_op op_mod (pe_op op_add (pv 4) (pe_op op_mul pe_int (pv 5))) pe_int) (fun _ _ => rfl))) (pe_slice sl_str (pv 2) (po_some (pv 3)) po_none))))))))), ?_⟩
    refine ⟨rfl, _, rfl, d, 26, rfl, hD, by decide, by decide, fun H1 a s1 D1 a0 a1 => ?_⟩
    obtain ⟨a, rfl⟩ := Int.eq_ofNat_of_zero_le a0
    have al : a < ltrs.length := by omega
    have m1 : ltrs[a] ∈ smN := ltrs_sm (List.getElem_mem al)
    refine ⟨tx ltrs, _, ltrs[a], rfl, rfl, by rw [tx_len, lt, sizeLine_eq]; decide, by rw [tx_list]; exact atI_nat (List.getElem?_eq_getElem al), ?_⟩
    refine ⟨_, rfl, d, 7, rfl, D1, by decide, by decide, fun H2 b s2 D2 b0 b1 => ?_⟩
    obtain ⟨b, rfl⟩ := Int.eq_ofNat_of_zero_le b0
    have em : Txt.mul (⟨#[ltrs[a]]⟩ : Str) ((b : Nat) : Int) = tx (List.replicate b ltrs[a]) := by
      cases b with
      | zero => rfl
      | succ b => exact mul_sg (by omega)
    refine ⟨_, _, rfl, rfl, ?_, ?_⟩
    · exact mulok1 _ b (by omega)
    rw [em]
    generalize hst : List.replicate b ltrs[a] = st0
    have sl : st0.length = b := by rw [← hst, List.length_replicate]
    have sm : ∀ c ∈ st0, c ∈ smN := fun c hc => by
      rw [← hst] at hc
      rw [(List.mem_replicate.mp hc).2]
      exact m1
    refine ⟨_, rfl, _, rfl, tx st0, rfl, by rw [tx_len, sizeLine_eq]; omega, _, _, rfl, rfl, d, _, rfl, D2, by rw [tx_len]; omega, by rw [tx_len]; omega, fun H3 c s3 D3 c0 c1 => ?_⟩
    rw [tx_len] at c1
    obtain ⟨c, rfl⟩ := Int.eq_ofNat_of_zero_le c0
    refine ⟨_, rfl, d, 26, rfl, D3, by decide, by decide, fun H4 s s4 D4 e0 e1 => ?_⟩
    obtain ⟨s, rfl⟩ := Int.eq_ofNat_of_zero_le e0
    have s04 := ((s1.trans s2).trans s3).trans s4
    have N : NmOk (nmOf (st0.take c) (st0.drop c) s) := nmOk_of (fun x h => sm x (List.mem_of_mem_take h)) (fun x h => sm x (List.mem_of_mem_drop h)) (by rw [List.length_take, List.length_drop]; omega)
    refine ⟨_, rfl, 6, rfl, by decide, by decide, fun Dl nl => ?_⟩
    refine lc_it walk_range (fun i H' => Same H4 H' ∧ H' Dl = some (.lst ((List.range i).map fun j => V.str (tx (nmOf (st0.take c) (st0.drop c) s j))))) ⟨same_upd nl, upd_same⟩ (fun _ _ _ _ => trivial) ?_ ?_
    · rintro i v G1 G2 hi ⟨s5, e5⟩ ⟨rfl, rfl⟩
      refine ⟨rfl, yes_i ?_⟩
      refine ⟨_, rfl, _, rfl, _, rfl, tx st0, rfl, by rw [tx_len, sizeLine_eq]; omega, ?_⟩
      rw [cutS_to]
      have hj : (s + 7 * i) % 26 < ltrs.length := by omega
      have ej : ltrs[(s + 7 * i) % 26] = 97 + (s + 7 * i) % 26 := (ltrs_at (List.getElem?_eq_getElem hj)).1
      have ei : (((s : Nat) : Int) + 7 * ((0 : Int) + ((i : Nat) : Int))) % 26 = (((s + 7 * i) % 26 : Nat) : Int) := by omega
      refine ⟨rfl, _, rfl, _, rfl, _, _, rfl, rfl, .inl ⟨by decide, by decide⟩, _, _, rfl, rfl, _, _, rfl, rfl, (by decide : (0 : Int) < 26), tx ltrs, _, ltrs[(s + 7 * i) % 26], rfl, rfl, by rw [tx_len, lt, sizeLine_eq]; decide, ?_, ?_⟩
      · rw [tx_list, ei]
        exact atI_nat (List.getElem?_eq_getElem hj)
      rw [ej]
      refine ⟨_, _, rfl, rfl, ?_, ?_⟩
      · rw [tx_len, List.length_take, sizeLine_eq]; show _ + 1 ≤ _; omega
      refine ⟨_, rfl, _, rfl, _, rfl, tx st0, rfl, by rw [tx_len, sizeLine_eq]; omega, ?_⟩
      rw [cut_from]
      refine ⟨_, _, rfl, rfl, ?_, ?_⟩
      · rw [show (⟨#[97 + (s + 7 * i) % 26]⟩ : Str) = tx [97 + (s + 7 * i) % 26] from rfl, tx_app, tx_len, tx_len, List.length_append, List.length_take, List.length_drop, sizeLine_eq]; show _ + 1 + _ ≤ _; omega
      rw [show (⟨#[97 + (s + 7 * i) % 26]⟩ : Str) = tx [97 + (s + 7 * i) % 26] from rfl, tx_app, tx_app]
      have hi : i < 6 := hi
      refine ⟨_, e5, by rw [List.length_map, List.length_range, sizeLine_eq]; omega, sm_over s5 nl, ?_⟩
      rw [upd_same, List.range_succ, List.map_append]
      rfl
    · rintro G1 ⟨s5, e5⟩
      exact q G1 Dl _ (s04.trans (SmD.of s5)) (D4.same s5) (smd_free s04 D4 nl) e5 N
def spTower (K : PySem.W.Frag) : Sp := fun vs H Q _ => ∃ (d nl : Addr) (k : Nat) (nm : Nat → List Nat), vs = [.ref d, .ref nl, .int (k : Nat)] ∧ Dr H d ∧ k < 6 ∧ NmOk nm ∧ nl ≠ d ∧ H nl = some (.lst (nmV6 nm)) ∧ ∀ H' v r, SmD d H H' → Dr H' d → Dp K H' v (encR r) → TowOk nm k r → Q v H'
set_option maxHeartbeats 2000000 in
theorem ok_tower {k : Nat} (B : BM mg) (L : RL K mg f_of f_draw f_letters f_number f_names f_flat f_count f_tower d_of d_draw d_letters d_number d_names d_flat d_count d_tower) : FnOk P w K mg base CX0 (k + 4) f_tower d_tower ["_law_d", "_law_names_here", "_law_k"] (spTower K) := by
  have GD : FnOk P w K mg base CX0 (k + 1) f_draw d_draw ["_law_d", "_law_many"] spDraw := ok_draw B L.draw.F
  have GO : FnOk P w K mg base CX0 (k + 2) f_of d_of ["_law_d", "_law_some"] (spOf K) := ok_of B L.of.F L.draw
  have GNu : FnOk P w K mg base CX0 (k + 3) f_number d_number ["_law_d"] spNumR := ok_numR B L
  have GF : FnOk P w K mg base CX0 (k + 1) f_flat d_flat ["_law_steps"] (spFlat K) := ok_flat B L
  refine L.tower.F.ok scTower (fun vs H Q E h => ?_) (fun cdv A outer st H vs Q E hr h => ?_)
  · obtain ⟨d, nl, k', nm, rfl, _⟩ := h
    rfl
  · obtain ⟨d, nl, k', nm, rfl, hD, hk, N, nld, hnl, q⟩ := h
    have nd := scTower.nd
    have r1 : Room (k + 1) _ := hr.mono (by omega)
    have r2 : Room (k + 2) _ := hr.mono (by omega)
    have r3 : Room (k + 3) _ := hr.mono (by omega)
    refine ⟨_, (pss_cons (ps_set (i := 3) nd rfl (.inl rfl) (pe_lst pa_nil))
      (C8.pss_cut (ps_for PassesOwn.never rfl (pi_range1 (by rfl) B.range (pa_cons (pe_call GD r1 rfl L.draw.g L.draw.F.kp L.draw.b .nil pass0 (pa_cons (pv 0) (pa_cons pe_int pa_nil))) pa_nil)) (pg_name (i := 4) nd rfl (.inl rfl))
        (pss_cons (ps_set (i := 5) nd rfl (.inl rfl) (pe_call GD r1 rfl L.draw.g L.draw.F.kp L.draw.b .nil pass0 (pa_cons (pv 0) (pa_cons pe_int pa_nil))))
      (pss_one (ps_if (pt_imp (t' := tHK) (PW.pt (pw_or (pt_cmpR op_eq (pv 5) pe_int (nomark _)) (pw_or1 (pt_cmpR op_eq (pv 2) pe_int (nomark _))))) imp_HK)
        (pss_one (ps_expr (pe_bm PySem.F.plainAttrs_list PySem.F.slot_list_append PySem.F.type_list_append mt_append (pv 3) (pa_cons (pe_tup (pa_cons pe_str (pa_cons (pe_call GO r2 rfl L.of.g L.of.F.kp L.of.b .nil pass0 (pa_cons (pv 0) (pa_cons (pe_lst (pa_cons pe_str (pa_cons pe_str pa_nil))) pa_nil))) pa_nil))) pa_nil))))
        (pss_one (ps_if (pt_cmpR op_eq (pv 5) pe_int (nomark _))
        (pss_one (ps_expr (pe_bm PySem.F.plainAttrs_list PySem.F.slot_list_append PySem.F.type_list_append mt_append (pv 3) (pa_cons (pe_tup (pa_cons pe_str (pa_cons (pe_call GNu r3 rfl L.number.g L.number.F.kp L.number.b .nil pass0 (pa_cons (pv 0) pa_nil)) (pa_cons (pe_call GF r1 rfl L.flat.g L.flat.F.kp L.flat.b .nil pass0 (pa_cons (pe_lst (pa_cons (pe_tup (pa_cons pe_str (pa_cons (pe_ix ix_list (pv 1) (pe_op op_sub (pv 2) pe_int) (fun _ _ => rfl)) pa_nil))) (pa_cons (pe_tup (pa_cons pe_str (pa_cons pe_str pa_nil))) pa_nil))) pa_nil)) pa_nil)))) pa_nil))))
        (pss_one (ps_expr (pe_bm PySem.F.plainAttrs_list PySem.F.slot_list_append PySem.F.type_list_append mt_append (pv 3) (pa_cons (pe_tup (pa_cons pe_str (pa_cons (pe_call GO r2 rfl L.of.g L.of.F.kp L.of.b .nil pass0 (pa_cons (pv 0) (pa_cons (pe_slice sl_list (pv 1) po_none (po_some (pv 2))) pa_nil))) pa_nil))) pa_nil))))))))))
      (C8.pss_cut (ps_if (pt_imp (t' := tKD) (PW.pt (pw_and (pt_cmpR op_gt (pv 2) pe_int (nomark _)) (pw_and1 (pt_cmpR op_eq (pe_call GD r1 rfl L.draw.g L.draw.F.kp L.draw.b .nil pass0 (pa_cons (pv 0) (pa_cons pe_int pa_nil))) pe_int (nomark _))))) imp_KD)
        (pss_cons (ps_set (i := 6) nd rfl (.inl rfl) (pe_call GF r1 rfl L.flat.g L.flat.F.kp L.flat.b .nil pass0 (pa_cons (pe_op op_rep (pe_lst (pa_cons (pe_tup (pa_cons pe_str (pa_cons pe_str pa_nil))) pa_nil)) (pe_call GD r1 rfl L.draw.g L.draw.F.kp L.draw.b .nil pass0 (pa_cons (pv 0) (pa_cons pe_int pa_nil)))) pa_nil)))
      (pss_cons (ps_for PassesOwn.never rfl (pi_range1 (by rfl) B.range (pa_cons (pe_op op_add pe_int (pe_call GD r1 rfl L.draw.g L.draw.F.kp L.draw.b .nil pass0 (pa_cons (pv 0) (pa_cons pe_int pa_nil)))) pa_nil)) (pg_name (i := 4) nd rfl (.inl rfl))
        (pss_one (ps_set (i := 6) nd rfl (.inl rfl) (pe_call GF r1 rfl L.flat.g L.flat.F.kp L.flat.b .nil pass0 (pa_cons (pe_lst (pa_cons (pe_tup (pa_cons pe_str (pa_cons (pe_call GO r2 rfl L.of.g L.of.F.kp L.of.b .nil pass0 (pa_cons (pv 0) (pa_cons (pe_lst (pa_cons (pe_op op_pow pe_int pe_int) (pa_cons (pe_op op_pow pe_int pe_int) (pa_cons pe_int pa_nil)))) pa_nil))) (pa_cons (pv 6) pa_nil)))) pa_nil)) pa_nil)))))
      (pss_one (ps_set (i := 3) nd rfl (.inl rfl) (pe_op op_cat (pv 3) (pe_callTy call_list_of (by rfl) B.list (by decide +kernel) (pa_cons (pe_ix ix_tup (pv 6) pe_int (fun _ _ => rfl)) pa_nil)))))))
        pss_nil)
      (pss_one (ps_ret (pe_call GF r1 rfl L.flat.g L.flat.F.kp L.flat.b .nil pass0 (pa_cons (pv 3) pa_nil))))))), ?_⟩
    refine ⟨Nat.zero_le _, fun p np => ?_⟩
    have npd := hD.ne np
    have npl : nl ≠ p := ne_of_none hnl np
    refine ⟨fun σ H' => ∃ (acc : List Stp) (vs : List V) (y4 y5 y6 : Option V), σ = [some (.ref d), some (.ref nl), some (.int (k' : Nat)), some (.ref p), y4, y5, y6] ∧ SmD d H H' ∧ Dr H' d ∧ H' p = some (.lst vs) ∧ H' nl = some (.lst (nmV6 nm)) ∧ DpAll K H' vs (encL acc) ∧ (∀ s ∈ acc, StOk nm k' s) ∧ vs.length ≤ 3, ?_, ?_⟩
    · refine ⟨_, rfl, d, 4, rfl, hD.same (same_upd np), by decide, by decide, fun H1 m s1 D1 m0 m1 => ?_⟩
      obtain ⟨m, rfl⟩ := Int.eq_ofNat_of_zero_le m0
      have sA : SmD d H H1 := (SmD.of (same_upd np)).trans s1
      have eL : H1 p = some (.lst []) := s1.1 _ _ npd upd_same
      have eN : H1 nl = some (.lst (nmV6 nm)) := sA.1 _ _ nld hnl
      refine ⟨_, rfl, by omega, by omega, ?_⟩
      rw [show ((m : Nat) : Int).toNat = m from Int.toNat_natCast _]
      refine for_it walk_range (fun i σ H' => ∃ (acc : List Stp) (vs : List V) (y4 y5 y6 : Option V), σ = [some (.ref d), some (.ref nl), some (.int (k' : Nat)), some (.ref p), y4, y5, y6] ∧ SmD d H H' ∧ Dr H' d ∧ H' p = some (.lst vs) ∧ H' nl = some (.lst (nmV6 nm)) ∧ DpAll K H' vs (encL acc) ∧ (∀ s ∈ acc, StOk nm k' s) ∧ vs.length = i)
        ⟨[], [], _, _, _, rfl, sA, D1, eL, eN, by rw [encL]; exact .nil, nofun, rfl⟩ (fun _ _ _ _ _ => trivial) ?_ ?_
      · rintro i v σ H2 H3 hi ⟨acc, vs, y4, y5, y6, rfl, s2, D2, e2, n2, h2, ok2, l2⟩ ⟨rfl, rfl⟩
        refine ⟨_, rfl, d, 4, rfl, D2, by decide, by decide, fun H4 how s4 D4 h0 h1 => ?_⟩
        have e4 := s4.1 _ _ npd e2
        have n4 := s4.1 _ _ nld n2
        obtain ⟨o2, ho2⟩ := D2.o
        have h4 := dpa_smx s4.1 ho2 (.inl ⟨_, rfl⟩) (noL_encL acc) h2
        have fin : ∀ (H5 : Hp) (x : Stp) (v : V) (y6' : Option V), SmD d H4 H5 → Dr H5 d → Dp K H5 v (encS x) → StOk nm k' x → (H5 p = some (.lst vs) ∧ vs.length < sizeLine) ∧
            ∃ (acc : List Stp) (vs' : List V) (y4 y5 y6 : Option V), ([some (.ref d), some (.ref nl), some (.int (k' : Nat)), some (.ref p), some (.int ((0 : Int) + (i : Nat))), some (.int how), y6'] : L2.St) = [some (.ref d), some (.ref nl), some (.int (k' : Nat)), some (.ref p), y4, y5, y6] ∧ SmD d H (upd H5 p (.lst (vs ++ [v]))) ∧ Dr (upd H5 p (.lst (vs ++ [v]))) d ∧ (upd H5 p (.lst (vs ++ [v]))) p = some (.lst vs') ∧ (upd H5 p (.lst (vs ++ [v]))) nl = some (.lst (nmV6 nm)) ∧ DpAll K (upd H5 p (.lst (vs ++ [v]))) vs' (encL acc) ∧ (∀ s ∈ acc, StOk nm k' s) ∧ vs'.length = i + 1 := fun H5 x v y6' s5 D5 hv ok => by
          have e5 := s5.1 _ _ npd e4
          have n5 := s5.1 _ _ nld n4
          obtain ⟨o4, ho4⟩ := D4.o
          have h5 := dpa_smx s5.1 ho4 (.inl ⟨_, rfl⟩) (noL_encL acc) h4
          obtain ⟨u, D6⟩ := ds_over (o := .lst (vs ++ [v])) hD ((s2.trans s4).trans s5) D5 np
          refine ⟨⟨e5, by rw [sizeLine_eq]; omega⟩, acc ++ [x], vs ++ [v], _, _, _, rfl, u, D6, upd_same, by rw [upd_ne npl]; exact n5, ?_, ?_, by rw [List.length_append, l2]; rfl⟩
          · rw [encL_snoc]
            have nl : noLA (encL acc ++ [encS x]) = true := by
              rw [← encL_snoc]
              exact noL_encL _
            have sx : SmX p H5 (upd H5 p (.lst (vs ++ [v]))) := fun b o nb hb => by rw [upd_ne nb]; exact hb
            exact dpa_smx sx e5 (.inl ⟨_, rfl⟩) nl (dpa_snoc h5 hv)
          · intro s hs
            rcases List.mem_append.mp hs with hs | hs
            · exact ok2 s hs
            · rw [List.mem_singleton.mp hs]; exact ok
        refine ⟨how, (k' : Nat), rfl, rfl, ?_⟩
        by_cases c0 : how = 0 ∨ ((k' : Nat) : Int) = 0
        · rw [decide_eq_true c0]
          refine iteT ⟨_, rfl, .inl ⟨rfl, _, SqL.of e4⟩, _, rfl, by show 2 ≤ sizeLine; decide, fun p5 np5 => ?_⟩
          refine ⟨d, _, rfl, D4.same (same_upd np5), .inl ⟨p5, _, rfl, D4.ne np5, SqL.of upd_same, by show 1 ≤ 2; decide, by show 2 ≤ 1000; decide, fun H5 v5 j s5 D5 hv => ?_⟩⟩
          obtain ⟨t, rfl, ht⟩ : ∃ t : List Nat, v5 = .str (tx t) ∧ (t = [] ∨ t = [97]) := by
            match j, hv with
            | 0, hv => cases hv; exact ⟨[], rfl, .inl rfl⟩
            | 1, hv => cases hv; exact ⟨[97], by rw [show (Str.ofString "a") = tx [97] by decide +kernel], .inr rfl⟩
          refine ⟨by show 2 ≤ sizeLine; decide, fun p6 np6 => ?_⟩
          have s46 : SmD d H4 (upd H5 p6 (.tup [.str "call", .str (tx t)])) := ((SmD.of (same_upd np5)).trans s5).trans (SmD.of (same_upd np6))
          obtain ⟨⟨e8, l8⟩, rest⟩ := fin _ (.call t) (.ref p6) y6 s46 (D5.same (same_upd np6)) (by rw [encS]; exact .tup (SqT.of upd_same) (.cons (.str _) (.cons (.str _) .nil))) (st_call ht)
          exact ⟨p, vs, _, rfl, rfl, e8, l8, rest⟩
        · rw [decide_eq_false c0]
          have k0 : 0 < k' := by omega
          have at1 : ∀ (j : Nat), j < 6 → (nmV6 nm)[j]? = some (.str (tx (nm j))) := fun j hj => by
            unfold nmV6
            rw [List.getElem?_map, List.getElem?_range hj]
            rfl
          refine iteF ⟨_, rfl, rfl, _, rfl, ?_⟩
          by_cases c1 : how = 1
          · rw [show decide (V.int how = V.int 1) = true from decide_eq_true (by rw [c1])]
            refine iteT ⟨_, rfl, .inl ⟨rfl, _, SqL.of e4⟩, _, rfl, d, rfl, D4, fun H5 m5 s5 D5 hm5 => ?_⟩
            have n5 := s5.1 _ _ nld n4
            refine ⟨_, rfl, _, rfl, _, _, rfl, rfl, nl, _, _, .str (tx (nm (k' - 1))), rfl, rfl, SqL.of n5, ?_, by show 2 ≤ sizeLine; decide, fun p6 np6 => ⟨by show 2 ≤ sizeLine; decide, fun p7 np7 => ⟨by show 2 ≤ sizeLine; decide, fun p8 np8 => ?_⟩⟩⟩
            · rw [show ((k' : Nat) : Int) - 1 = ((k' - 1 : Nat) : Int) by omega]
              exact atI_nat (at1 _ (by omega))
            have a67 : p6 ≠ p7 := ne_of_none upd_same np7
            have sB := sm_trans (sm_trans (same_upd np6 (o := .tup [.str "row", .str (tx (nm (k' - 1)))])) (same_upd np7 (o := .tup [.str "turn", .str "a"]))) (same_upd np8 (o := .lst [.ref p6, .ref p7]))
            have s78 := same_upd np8 (o := .lst [.ref p6, .ref p7])
            have hd8 : DpAll K (upd (upd (upd H5 p6 (.tup [.str "row", .str (tx (nm (k' - 1)))])) p7 (.tup [.str "turn", .str "a"])) p8 (.lst [.ref p6, .ref p7])) [.ref p6, .ref p7] (encL [.row (nm (k' - 1)), .turn [97]]) := by
              rw [encL, encL, encL, encS, encS]
              refine .cons (.tup (SqT.of (s78 _ _ (by rw [upd_ne a67, upd_same]))) (.cons (.str _) (.cons (.str _) .nil))) (.cons (.tup (SqT.of (s78 _ _ upd_same)) (.cons (.str _) (.cons ?_ .nil))) .nil)
              rw [show (Str.ofString "a") = tx [97] by decide +kernel]
              exact .str _
            refine ⟨p8, _, _, rfl, SqL.of upd_same, hd8, fun H6 v6 s6 d6 => ⟨by show 3 ≤ sizeLine; decide, fun p9 np9 => ?_⟩⟩
            have s9 := sm_trans (sm_trans sB s6) (same_upd np9 (o := .tup [.str "times", .int (m5 : Nat), v6]))
            obtain ⟨⟨e8, l8⟩, rest⟩ := fin _ (.times m5 [.row (nm (k' - 1)), .turn [97]]) (.ref p9) y6 (s5.trans (SmD.of s9)) (D5.same s9) (by rw [encS]; exact .tup (SqT.of upd_same) (.cons (.str _) (.cons (.int _) (.cons (dp_same (same_upd np9) d6) .nil)))) (st_times N hk k0 hm5)
            exact ⟨p, vs, _, rfl, rfl, e8, l8, rest⟩
          · rw [show decide (V.int how = V.int 1) = false from decide_eq_false fun h => by injection h with h; exact c1 h]
            refine iteF ⟨_, rfl, .inl ⟨rfl, _, SqL.of e4⟩, _, rfl, _, rfl, _, rfl, _, rfl, nl, _, rfl, SqL.of n4, fun p5 np5 => ?_⟩
            rw [cut_take]
            have lt : ((nmV6 nm).take k').length = k' := by unfold nmV6; rw [List.length_take, List.length_map, List.length_range]; omega
            refine ⟨d, _, rfl, D4.same (same_upd np5), .inl ⟨p5, _, rfl, D4.ne np5, SqL.of upd_same, by rw [lt]; exact k0, by rw [lt]; omega, fun H5 v5 j s5 D5 hv => ?_⟩⟩
            have hj : j < k' := by
              have := (List.getElem?_eq_some_iff.mp hv).1
              rw [lt] at this
              exact this
            rw [List.getElem?_take_of_lt hj, at1 j (by omega)] at hv
            cases hv
            refine ⟨by show 2 ≤ sizeLine; decide, fun p6 np6 => ?_⟩
            have s46 : SmD d H4 (upd H5 p6 (.tup [.str "row", .str (tx (nm j))])) := ((SmD.of (same_upd np5)).trans s5).trans (SmD.of (same_upd np6))
            obtain ⟨⟨e8, l8⟩, rest⟩ := fin _ (.row (nm j)) (.ref p6) y6 s46 (D5.same (same_upd np6)) (by rw [encS]; exact .tup (SqT.of upd_same) (.cons (.str _) (.cons (.str _) .nil))) (st_row N hk hj)
            exact ⟨p, vs, _, rfl, rfl, e8, l8, rest⟩
      · rintro σ H2 ⟨acc, vs, y4, y5, y6, rfl, s2, D2, e2, n2, h2, ok2, l2⟩
        exact ⟨acc, vs, y4, y5, y6, rfl, s2, D2, e2, n2, h2, ok2, by omega⟩
    · rintro σ H2 ⟨acc, vs, y4, y5, y6, rfl, s2, D2, e2, n2, h2, ok2, l2⟩
      refine ⟨fun σ H' => ∃ (acc : List Stp) (p' : Addr) (vs : List V) (y4 y5 y6 : Option V), σ = [some (.ref d), some (.ref nl), some (.int (k' : Nat)), some (.ref p'), y4, y5, y6] ∧ SmD d H H' ∧ Dr H' d ∧ H' p' = some (.lst vs) ∧ DpAll K H' vs (encL acc) ∧ (∀ s ∈ acc, StOk nm k' s) ∧ acc.length ≤ 12, ?_, ?_⟩
      · refine ⟨d, (k' : Nat), rfl, rfl, D2, fun H3 b s3 D3 hb => ?_⟩
        have s03 := s2.trans s3
        have e3 := s3.1 _ _ npd e2
        obtain ⟨o2, ho2⟩ := D2.o
        have h3 := dpa_smx s3.1 ho2 (.inl ⟨_, rfl⟩) (noL_encL acc) h2
        have la : acc.length ≤ 3 := by
          have := dpa_len h2
          rw [encL_len] at this
          omega
        cases b with
        | false => exact iteF ⟨acc, p, vs, _, _, _, rfl, s03, D3, e3, h3, ok2, by omega⟩
        | true =>
          have keep : ∀ {H1 H2 : Hp}, Dr H1 d → SmD d H1 H2 → DpAll K H1 vs (encL acc) → DpAll K H2 vs (encL acc) := fun D s h => by
            obtain ⟨o, ho⟩ := D.o
            exact dpa_smx s.1 ho (.inl ⟨_, rfl⟩) (noL_encL acc) h
          have keepR : ∀ {H1 H2 : Hp} {v : V} {r : List Stp}, Dr H1 d → SmD d H1 H2 → Dp K H1 v (encR r) → Dp K H2 v (encR r) := fun D s h => by
            obtain ⟨o, ho⟩ := D.o
            exact dp_smx s.1 ho (.inl ⟨_, rfl⟩) (noL_encR _) h
          refine iteT ⟨by show 2 ≤ sizeLine; decide, fun p5 np5 => ⟨by show 1 ≤ sizeLine; decide, fun p6 np6 => ?_⟩⟩
          have sa : Same H3 (upd (upd H3 p5 (.tup [.str "call", .str ""])) p6 (.lst [.ref p5])) := sm_trans (same_upd np5) (same_upd np6)
          have e56 : p5 ≠ p6 := ne_of_none upd_same np6
          have et : (upd (upd H3 p5 (.tup [.str "call", .str ""])) p6 (.lst [.ref p5])) p5 = some (.tup [.str "call", .str ""]) := by rw [upd_ne e56, upd_same]
          have el : (upd (upd H3 p5 (.tup [.str "call", .str ""])) p6 (.lst [.ref p5])) p6 = some (.lst [.ref p5]) := upd_same
          have n5d := D3.ne np5
          have n6d := (D3.same (same_upd np5 (o := .tup [.str "call", .str ""]))).ne np6
          generalize upd (upd H3 p5 (.tup [.str "call", .str ""])) p6 (.lst [.ref p5]) = Ha at sa et el ⊢
          have Da := D3.same sa
          refine ⟨_, rfl, d, 3, rfl, Da, by decide, by decide, fun H4 j s4 D4 j0 j1 => ?_⟩
          obtain ⟨j, rfl⟩ := Int.eq_ofNat_of_zero_le j0
          have et4 := s4.1 _ _ n5d et
          have el4 := s4.1 _ _ n6d el
          refine ⟨p6, _, _, rfl, rfl, el4, by omega, by omega, by rw [Int.toNat_natCast, sizeLine_eq]; show 1 * j ≤ _; omega, fun p7 np7 => ?_⟩
          rw [Int.toNat_natCast]
          have hc7 : DpAll K (upd H4 p7 (.lst (List.replicate j [V.ref p5]).flatten)) (List.replicate j [V.ref p5]).flatten (encL (List.replicate j (.call []))) := by
            have := dpa_rep (K := K) (H := upd H4 p7 (.lst (List.replicate j [V.ref p5]).flatten)) (vs := [V.ref p5]) (ds := [encS (.call [])]) (.cons (by
              rw [encS]
              exact .tup (SqT.of (same_upd np7 _ _ et4)) (.cons (.str _) (.cons (.str _) .nil))) .nil) j
            rw [List.flatten_replicate_singleton (a := encS (.call []))] at this
            rw [encL_map, List.map_replicate]
            exact this
          refine ⟨p7, _, _, rfl, SqL.of upd_same, hc7, fun H5 v5 s5 d5 => ?_⟩
          have s35 : SmD d H3 H5 := ((SmD.of sa).trans s4).trans (SmD.of (sm_trans (same_upd np7) s5))
          have D5 : Dr H5 d := D4.same (sm_trans (same_upd np7) s5)
          have h5 := keep D3 s35 h3
          refine ⟨_, rfl, d, 3, rfl, D5, by decide, by decide, fun H6 n s6 D6 n0 n1 => ⟨_, _, rfl, rfl, _, rfl, by omega, by omega, ?_⟩⟩
          obtain ⟨n, rfl⟩ := Int.eq_ofNat_of_zero_le n0
          rw [show ((1 : Int) + ((n : Nat) : Int)).toNat = n + 1 by omega]
          refine for_it walk_range (fun i σ H' => ∃ (r : List Stp) (v : V) (y4 y5 : Option V), σ = [some (.ref d), some (.ref nl), some (.int (k' : Nat)), some (.ref p), y4, y5, some v] ∧ SmD d H3 H' ∧ Dr H' d ∧ Dp K H' v (encR r) ∧ NsOk i r)
            ⟨_, v5, _, _, rfl, s35.trans s6, D6, keepR D5 s6 d5, ns_zero j (by omega)⟩ (fun _ _ _ _ _ => trivial) ?_ ?_
          · rintro i v σ G1 G2 hi ⟨r, v6, y4, y5, rfl, u1, E1, d1, ns⟩ ⟨rfl, rfl⟩
            refine ⟨_, rfl, _, _, rfl, rfl, ⟨by decide, by decide, by decide⟩, _, _, rfl, rfl, ⟨by decide, by decide, by decide⟩, by show 3 ≤ sizeLine; decide, fun p8 np8 => ?_⟩
            refine ⟨d, _, rfl, E1.same (same_upd np8), .inl ⟨p8, _, rfl, E1.ne np8, SqL.of upd_same, by show 1 ≤ 3; decide, by show 3 ≤ 1000; decide, fun G3 v8 j8 u8 E8 hv => ?_⟩⟩
            obtain ⟨m8, rfl, hm8⟩ : ∃ m : Nat, v8 = .int (m : Nat) ∧ m ≤ 10 ^ 30 := by
              match j8, hv with
              | 0, hv => cases hv; exact ⟨10 ^ 30, by rfl, Nat.le_refl _⟩
              | 1, hv => cases hv; exact ⟨10 ^ 20, by rfl, by decide⟩
              | 2, hv => cases hv; exact ⟨3, by rfl, by decide⟩
            have u13 : SmD d G2 G3 := (SmD.of (same_upd np8)).trans u8
            have d3 := keepR E1 u13 d1
            refine ⟨_, rfl, by show 3 ≤ sizeLine; decide, fun p9 np9 => ⟨by show 1 ≤ sizeLine; decide, fun p10 np10 => ?_⟩⟩
            have e910 : p9 ≠ p10 := ne_of_none upd_same np10
            have s9 := same_upd np9 (o := .tup [.str "times", .int (m8 : Nat), v6])
            have s10 := sm_trans s9 (same_upd np10 (o := .lst [.ref p9]))
            refine ⟨p10, _, [.times m8 r], rfl, SqL.of upd_same, ?_, fun G4 v11 u11 d11 => ?_⟩
            · rw [encL, encL, encS]
              exact .cons (.tup (SqT.of (by rw [upd_ne e910, upd_same])) (.cons (.str _) (.cons (.int _) (.cons (dp_same s10 d3) .nil)))) .nil
            · exact ⟨_, v11, _, _, rfl, (u1.trans u13).trans (SmD.of (sm_trans s10 u11)), E8.same (sm_trans s10 u11), d11, ns_succ ns hm8⟩
          · rintro σ G1 ⟨r, v6, y4, y5, rfl, u1, E1, d1, ns⟩
            have hg := keep D3 u1 h3
            unfold encR at d1
            obtain ⟨pt, va, vb, rfl, hT, ha, hb'⟩ := dp_two d1
            cases hb' with
            | tup hq hall =>
              rename_i q2 es
              have el := dpa_len hall
              rw [encL_len] at el
              have rl := ns.l
              refine ⟨_, rfl, _, rfl, pt, _, 1, _, rfl, rfl, hT, rfl, q2, es, rfl, .inr hq, fun lq nlq => ?_⟩
              have eg := u1.1 _ _ npd e3
              have npq : p ≠ lq := ne_of_none eg nlq
              have vl := dpa_len hg
              rw [encL_len] at vl
              refine ⟨p, lq, vs, es, rfl, rfl, by rw [upd_ne npq]; exact eg, upd_same, by rw [sizeLine_eq]; omega, fun p11 np11 => ?_⟩
              have sf := sm_trans (same_upd nlq (o := .lst es)) (same_upd np11 (o := .lst (vs ++ es)))
              refine ⟨acc ++ r, p11, vs ++ es, _, _, _, rfl, (s03.trans u1).trans (SmD.of sf), E1.same sf, upd_same, ?_, ?_, by rw [List.length_append]; omega⟩
              · rw [encL_app]
                exact dpa_app (dpa_same sf hg) (dpa_same sf hall)
              · intro s hs
                rcases List.mem_append.mp hs with hs | hs
                · exact ok2 s hs
                · exact ns_st ns (by omega) s hs
      · rintro σ H3 ⟨acc, p', vs, y4, y5, y6, rfl, s3, D3, e3, h3, ok3, l3⟩
        refine ⟨_, rfl, p', vs, acc, rfl, SqL.of e3, h3, fun H4 v4 s4 d4 => ?_⟩
        exact q H4 v4 acc (s3.trans (SmD.of s4)) (D3.same s4) d4 (tow_of ok3 l3)
def oV : Option Nat → V
  | none => .non
  | some n => .int (n : Nat)
structure BkL (K : PySem.W.Frag) (H : Hp) (b : Addr) (bk : List Nat → Option (List Stp)) (bkvs : List (Key × V)) : Prop where
  o : H b = some (.dK bkvs)
  l : bkvs.length < sizeLine
  it : ∀ n r, bk n = some r → ∃ v, valV bkvs (kN n) = some v ∧ Dp K H v (encR r) ∧ wfR r = true
structure KnS (H : Hp) (kn : Addr) (bkvs : List (Key × V)) (env : List Nat → Option Nat) (kvs : List (Key × V)) : Prop where
  o : H kn = some (.dK kvs)
  nd : (kvs.map (·.1)).Nodup
  sub : ∀ k ∈ kvs.map (·.1), k ∈ bkvs.map (·.1)
  it : ∀ n v, valV kvs (kN n) = some v → v = oV (env n)
def KnAt (H : Hp) (kn : Addr) (bkvs : List (Key × V)) (env : List Nat → Option Nat) : Prop := ∃ kvs, KnS H kn bkvs env kvs
theorem KnAt.put {H : Hp} {kn : Addr} {bkvs : List (Key × V)} {env : List Nat → Option Nat} {n : List Nat} (h : KnAt H kn bkvs env) (hb : kN n ∈ bkvs.map (·.1)) (bl : bkvs.length < sizeLine) :
    ∃ H', DPut H kn (.str (tx n)) (oV (env n)) H' ∧ SmX kn H H' ∧ ∃ kvs, KnS H' kn bkvs env kvs ∧ valV kvs (kN n) = some (oV (env n)) := by
  obtain ⟨kvs, o, nd, sub, it⟩ := h
  have l := nd.length_le_of_subset sub
  rw [List.length_map, List.length_map] at l
  refine ⟨_, DPut.k o (k := kN n) (by omega), fun b o' nb h => by rw [upd_ne nb]; exact h, _, ⟨upd_same, ?_, ?_, ?_⟩, by rw [valV_put, if_pos rfl]⟩
  · rw [putK_keys]
    cases e : valV kvs (kN n) with
    | none =>
      rw [if_neg (by simp)]
      have := valV_not e
      rw [List.nodup_append]
      exact ⟨nd, by simp, fun a ha b hb => by rw [List.mem_singleton.mp hb]; exact fun z => this (z ▸ ha)⟩
    | some _ => rw [if_pos (by rfl)]; exact nd
  · rw [putK_keys]
    intro x hx
    cases e : valV kvs (kN n) with
    | none =>
      rw [e, if_neg (by simp), List.mem_append] at hx
      rcases hx with hx | hx
      · exact sub x hx
      · rw [List.mem_singleton.mp hx]; exact hb
    | some _ =>
      rw [e, if_pos (by rfl)] at hx
      exact sub x hx
  · intro m v hv
    rw [valV_put] at hv
    split at hv
    · rename_i z
      cases hv
      rw [kN_inj z]
    · exact it m v hv
theorem evR_le {env : List Nat → Option Nat} : ∀ (r : List Stp) (a w : Nat), a ≤ 10 ^ 60 → evR opsN env r a = some w → w ≤ 10 ^ 60
  | [], a, w, h, e => by rw [evR] at e; cases e; exact h
  | s :: r, a, w, h, e => by
    rw [evR] at e
    obtain ⟨x, _, e⟩ := Option.bind_eq_some_iff.mp e
    obtain ⟨b, hb, e⟩ := Option.bind_eq_some_iff.mp e
    have hb : (if 10 ^ 60 < a + x then none else some (a + x)) = some b := hb
    split at hb
    · cases hb
    · cases hb
      exact evR_le r _ w (by omega) e
def in1 (env : List Nat → Option Nat) : Stp → V
  | .row n => oV (env n)
  | _ => .int 1
def spCount (K : PySem.W.Frag) (m : Nat) : Sp := fun vs H Q _ => ∃ (b kn : Addr) (v : V) (r : List Stp) (bk : List Nat → Option (List Stp)) (dn : List Nat → Nat) (bkvs : List (Key × V)), vs = [.ref b, .ref kn, v] ∧ Dp K H v (encR r) ∧ wfR r = true ∧ BkL K H b bk bkvs ∧
  (∀ n r, bk n = some r → mdR dn r ≤ dn n) ∧ (∀ n r, bk n = some r → inR bk r) ∧ mdR dn r ≤ m ∧ inR bk r ∧ b ≠ kn ∧ KnAt H kn bkvs (envOf opsN bk dn) ∧
  ∀ H', SmX kn H H' → KnAt H' kn bkvs (envOf opsN bk dn) → Q (oV (evR opsN (envOf opsN bk dn) r 0)) H'
set_option maxHeartbeats 2000000 in
theorem ok_count_of {k m : Nat} {spC : Sp} (B : BM mg) (L : RL K mg f_of f_draw f_letters f_number f_names f_flat f_count f_tower d_of d_draw d_letters d_number d_names d_flat d_count d_tower) (GC : FnOk P w K mg base CX0 k f_count d_count ["_law_book_it", "_law_known", "_law_tree"] spC) (hC : ∀ m', m = m' + 1 → spC = spCount K m') : FnOk P w K mg base CX0 (k + 1) f_count d_count ["_law_book_it", "_law_known", "_law_tree"] (spCount K m) := by
  refine L.count.F.ok scCount (fun vs H Q E h => ?_) (fun cdv A outer st H vs Q E hr h => ?_)
  · obtain ⟨b, kn, v, r, bk, dn, bkvs, rfl, _⟩ := h
    rfl
  · obtain ⟨b, kn, v, r, bk, dn, bkvs, rfl, hd, hw, hB, md, ok, hm, hin, nbk, hK, q⟩ := h
    have nd := scCount.nd
    refine ⟨_, (pss_cons (ps_set (i := 3) nd rfl (.inl rfl) pe_int)
      (pss_cons (ps_for PassesOwn.never rfl (pi_tup (pe_ix ix_tup (pv 2) pe_int (fun _ _ => rfl))) (pg_name (i := 4) nd rfl (.inl rfl))
        (pss_cons (ps_set (i := 5) nd rfl (.inl rfl) pe_int)
      (C8.pss_cut (ps_if (pt_cmpR op_eq (pe_ix ix_tup (pv 4) pe_int (fun _ _ => rfl)) pe_str (nomark _))
        (C8.pss_cut (ps_if (pt_cmp (pc_dnotin (hu_of hr) (pe_ix ix_tup (pv 4) pe_int (fun _ _ => rfl)) (pv 1)))
        (pss_one (ps_dput (hu_of hr) (pv 1) (pe_ix ix_tup (pv 4) pe_int (fun _ _ => rfl)) (pe_call GC hr rfl L.count.g L.count.F.kp L.count.b .nil pass0 (pa_cons (pv 0) (pa_cons (pv 1) (pa_cons (pe_dget (hu_of hr) (pv 0) (pe_ix ix_tup (pv 4) pe_int (fun _ _ => rfl)) (fun _ _ => rfl)) pa_nil)))) rfl))
        pss_nil)
      (pss_one (ps_set (i := 5) nd rfl (.inl rfl) (pe_dget (hu_of hr) (pv 1) (pe_ix ix_tup (pv 4) pe_int (fun _ _ => rfl)) (fun _ _ => rfl)))))
        pss_nil)
      (C8.pss_cut (ps_if (pt_cmpR op_eq (pe_ix ix_tup (pv 4) pe_int (fun _ _ => rfl)) pe_str (nomark _))
        (pss_cons (ps_set (i := 5) nd rfl (.inl rfl) (pe_call GC hr rfl L.count.g L.count.F.kp L.count.b .nil pass0 (pa_cons (pv 0) (pa_cons (pv 1) (pa_cons (pe_ix ix_tup (pv 4) pe_int (fun _ _ => rfl)) pa_nil)))))
      (pss_one (ps_set (i := 5) nd rfl (.inl rfl) (pe_ifExp (pt_cmp (pc_isN (pv 5))) pe_non (pe_op op_mulW (pv 5) (pe_ix ix_tup (pv 4) pe_int (fun _ _ => rfl)))))))
        pss_nil)
      (pss_cons (ps_if (PW.pt (pw_or (pt_cmp (pc_isN (pv 5))) (pw_or1 (pt_cmpR op_gt (pe_op op_add (pv 3) (pv 5)) (pe_op op_pow pe_int pe_int) (nomark _)))))
        (pss_one (ps_ret pe_non))
        pss_nil)
      (pss_one (ps_set (i := 3) nd rfl (.inl rfl) (pe_op op_add (pv 3) (pv 5)))))))))
      (pss_one (ps_ret (pv 3))))), ?_⟩
    unfold encR at hd
    obtain ⟨p, va, vb, rfl, hT, ha, hb'⟩ := dp_two hd
    cases hb' with
    | tup hq hall =>
      rename_i pq xs
      have xl : xs.length = r.length := by rw [dpa_len hall, encL_len]
      obtain ⟨env, henv⟩ : ∃ env, env = envOf opsN bk dn := ⟨_, rfl⟩
      have BO := bkOk_of opsN md ok
      rw [← henv] at hK q BO
      refine ⟨_, rfl, p, _, 1, _, rfl, rfl, hT, rfl, pq, rfl, ⟨_, hq⟩, ?_⟩
      have wk := walk_tup (K := K) (a := pq) (xs := xs)
      obtain ⟨o, ho, hmu⟩ : ∃ o, H kn = some o ∧ Mut o := by
        obtain ⟨kvs, e, _, _, _⟩ := hK
        exact ⟨_, e, .inr (.inr ⟨_, rfl⟩)⟩
      refine for_it wk (fun i σ H' => ∃ (y4 y5 : Option V) (c : Nat), σ = [some (.ref b), some (.ref kn), some (.ref p), some (.int (c : Nat)), y4, y5] ∧ SmX kn H H' ∧ KnAt H' kn bkvs env ∧ c ≤ 10 ^ 60 ∧ evR opsN env r 0 = evR opsN env (r.drop i) c)
        ⟨_, _, 0, rfl, SmX.refl _ _, hK, Nat.zero_le _, rfl⟩ (fun i σ' H' _ h => by
          obtain ⟨_, _, _, _, s, _⟩ := h
          exact smx_t s ho hmu hq) ?_ ?_
      · rintro i v σ H1 H2 hi ⟨y4, y5, c, rfl, s1, K1, c60, ev⟩ ⟨rfl, hx⟩
        obtain ⟨d', hd', hdp⟩ := dpa_get hall hx
        rw [encL_map, List.getElem?_map] at hd'
        obtain ⟨x, hs1, rfl⟩ := Option.map_eq_some_iff.mp hd'
        have hil : i < r.length := (List.getElem?_eq_some_iff.mp hs1).1
        have xm := List.mem_of_getElem? hs1
        have xw := wfR_mem hw x xm
        have xmd := Nat.le_trans (mdR_mem (dn := dn) xm) hm
        have xin := inR_mem hin x xm
        have er : r.drop i = x :: r.drop (i + 1) := by
          rw [List.drop_eq_getElem_cons hil]
          congr 1
          rw [List.getElem?_eq_getElem hil] at hs1
          exact Option.some.inj hs1
        have hdp1 : Dp K H2 v (encS x) := dp_smx s1 ho hmu (noL_encS x) hdp
        refine ⟨fun σ H' => σ = [some (.ref b), some (.ref kn), some (.ref p), some (.int (c : Nat)), some v, some (in1 env x)] ∧ SmX kn H H' ∧ KnAt H' kn bkvs env, ?_, ?_⟩
        · cases x with
          | call t =>
            rw [encS] at hdp1
            obtain ⟨ps, va, vb, rfl, hS, ha, hb⟩ := dp_two hdp1
            cases ha
            refine ⟨_, rfl, ps, _, 0, _, rfl, rfl, hS, rfl, rfl, _, rfl, ?_⟩
            rw [show decide (V.str "call" = V.str "row") = false from decide_eq_false fun h => by cases V.str.inj h]
            exact iteF ⟨rfl, s1, K1⟩
          | turn t =>
            rw [encS] at hdp1
            obtain ⟨ps, va, vb, rfl, hS, ha, hb⟩ := dp_two hdp1
            cases ha
            refine ⟨_, rfl, ps, _, 0, _, rfl, rfl, hS, rfl, rfl, _, rfl, ?_⟩
            rw [show decide (V.str "turn" = V.str "row") = false from decide_eq_false fun h => by cases V.str.inj h]
            exact iteF ⟨rfl, s1, K1⟩
          | times m1 r1 =>
            rw [encS] at hdp1
            obtain ⟨ps, va, vb, vc, rfl, hS, ha, hb, hc⟩ := dp_three hdp1
            cases ha
            refine ⟨_, rfl, ps, _, 0, _, rfl, rfl, hS, rfl, rfl, _, rfl, ?_⟩
            rw [show decide (V.str "times" = V.str "row") = false from decide_eq_false fun h => by cases V.str.inj h]
            exact iteF ⟨rfl, s1, K1⟩
          | row n =>
            rw [encS] at hdp hdp1
            obtain ⟨ps, va, vb, rfl, hS, ha, hb⟩ := dp_two hdp1
            cases ha; cases hb
            have hS0 : SqT K H ps [.str "row", .str (tx n)] := by
              obtain ⟨ps', va', vb', e, hS', ha', hb'⟩ := dp_two hdp
              cases e; cases ha'; cases hb'
              exact hS'
            rw [inS] at xin
            obtain ⟨rb, hrb⟩ := Option.isSome_iff_exists.mp xin
            obtain ⟨bv, hbv, hbd, hbw⟩ := hB.it n rb hrb
            rw [mdS] at xmd
            obtain ⟨m', rfl⟩ : ∃ m', m = m' + 1 := ⟨m - 1, by omega⟩
            have eC := hC m' rfl
            subst eC
            refine ⟨_, rfl, ps, _, 0, _, rfl, rfl, hS, rfl, rfl, _, rfl, ?_⟩
            rw [show decide (V.str "row" = V.str "row") = true from decide_eq_true rfl]
            refine iteT ?_
            refine ⟨fun σ H' => σ = [some (.ref b), some (.ref kn), some (.ref p), some (.int (c : Nat)), some (.ref ps), some (.int 1)] ∧ SmX kn H H' ∧ ∃ kvs, KnS H' kn bkvs env kvs ∧ valV kvs (kN n) = some (oV (env n)), ?_, ?_⟩
            · obtain ⟨kvs, KS⟩ := id K1
              refine ⟨_, rfl, ps, _, 1, _, rfl, rfl, hS, rfl, _, rfl, kn, _, rfl, DGet.k (k := kN n) KS.o, _, rfl, ?_⟩
              cases ev0 : valV kvs (kN n) with
              | some v0 =>
                refine iteF ⟨rfl, s1, kvs, KS, ?_⟩
                rw [ev0, KS.it n v0 ev0]
              | none =>
                have gB : DGet H2 b (.str (tx n)) (some bv) := by
                  have := DGet.k (k := kN n) (s1 _ _ nbk hB.o)
                  rw [hbv] at this
                  exact this
                refine iteT ⟨_, rfl, _, rfl, _, rfl, _, rfl, ps, _, 1, _, rfl, rfl, hS, rfl, b, bv, rfl, gB, ?_⟩
                refine ⟨b, kn, bv, rb, bk, dn, bkvs, rfl, dp_smx s1 ho hmu (noL_encR rb) hbd, hbw, ⟨s1 _ _ nbk hB.o, hB.l, fun n r h => ?_⟩, md, ok, Nat.le_trans (md n rb hrb) (by omega), ok n rb hrb, nbk, by rw [← henv]; exact K1, fun H3 s3 K3 => ?_⟩
                · obtain ⟨v, h1, h2, h3⟩ := hB.it n r h
                  exact ⟨v, h1, dp_smx s1 ho hmu (noL_encR r) h2, h3⟩
                rw [← henv] at K3 ⊢
                have en : env n = evR opsN env rb 0 := by
                  rw [BO.ev n rb hrb]
                  show (evR opsN env rb 0).map (fun w => w * 1) = _
                  cases evR opsN env rb 0 <;> simp
                rw [← en]
                obtain ⟨H4, hp, s4, K4⟩ := K3.put (n := n) (valV_mem hbv) hB.l
                have s13 := s1.trans s3
                have hS3 := smx_t s13 ho hmu hS0
                refine ⟨_, rfl, _, rfl, ps, _, 1, _, rfl, rfl, hS3, rfl, kn, H4, rfl, hp, rfl, s13.trans s4, K4⟩
            · rintro σ H3 ⟨rfl, s3, kvs, KS, hv⟩
              have hS3 := smx_t s3 ho hmu hS0
              have g : DGet H3 kn (.str (tx n)) (some (oV (env n))) := by
                have := DGet.k (k := kN n) KS.o
                rw [hv] at this
                exact this
              exact ⟨_, rfl, _, rfl, ps, _, 1, _, rfl, rfl, hS3, rfl, kn, _, rfl, g, rfl, s3, kvs, KS⟩
        · rintro σ H3 ⟨rfl, s3, K3⟩
          have hdp3 : Dp K H3 v (encS x) := dp_smx s3 ho hmu (noL_encS x) hdp
          refine ⟨fun σ H' => σ = [some (.ref b), some (.ref kn), some (.ref p), some (.int (c : Nat)), some v, some (oV (evS opsN env x))] ∧ SmX kn H H' ∧ KnAt H' kn bkvs env, ?_, ?_⟩
          · skip
            cases x with
            | call t =>
              have ee : evS opsN env (.call t) = some 1 := by rw [evS]; rfl
              rw [ee]
              rw [encS] at hdp3
              obtain ⟨ps, va, vb, rfl, hS, ha, hb⟩ := dp_two hdp3
              cases ha
              refine ⟨_, rfl, ps, _, 0, _, rfl, rfl, hS, rfl, rfl, _, rfl, ?_⟩
              rw [show decide (V.str "call" = V.str "times") = false from decide_eq_false fun h => by cases V.str.inj h]
              exact iteF ⟨rfl, s3, K3⟩
            | turn t =>
              have ee : evS opsN env (.turn t) = some 1 := by rw [evS]; rfl
              rw [ee]
              rw [encS] at hdp3
              obtain ⟨ps, va, vb, rfl, hS, ha, hb⟩ := dp_two hdp3
              cases ha
              refine ⟨_, rfl, ps, _, 0, _, rfl, rfl, hS, rfl, rfl, _, rfl, ?_⟩
              rw [show decide (V.str "turn" = V.str "times") = false from decide_eq_false fun h => by cases V.str.inj h]
              exact iteF ⟨rfl, s3, K3⟩
            | row n =>
              have ee : evS opsN env (.row n) = env n := by rw [evS]
              rw [ee]
              rw [encS] at hdp3
              obtain ⟨ps, va, vb, rfl, hS, ha, hb⟩ := dp_two hdp3
              cases ha
              refine ⟨_, rfl, ps, _, 0, _, rfl, rfl, hS, rfl, rfl, _, rfl, ?_⟩
              rw [show decide (V.str "row" = V.str "times") = false from decide_eq_false fun h => by cases V.str.inj h]
              exact iteF ⟨rfl, s3, K3⟩
            | times m1 r1 =>
              have ee : evS opsN env (.times m1 r1) = (evR opsN env r1 0).map fun w => w * m1 := by rw [evS]; rfl
              rw [ee]
              rw [encS] at hdp
              obtain ⟨ps, va, vb, vc, rfl, hS0, ha, hb, hc0⟩ := dp_three hdp
              cases ha; cases hb
              have hS := smx_t s3 ho hmu hS0
              have hc : Dp K H3 vc (encR r1) := dp_smx s3 ho hmu (noL_encR r1) hc0
              rw [wfS, Bool.and_eq_true, decide_eq_true_eq] at xw
              rw [mdS] at xmd
              rw [inS] at xin
              obtain ⟨m', rfl⟩ : ∃ m', m = m' + 1 := ⟨m - 1, by omega⟩
              have eC := hC m' rfl
              subst eC
              refine ⟨_, rfl, ps, _, 0, _, rfl, rfl, hS, rfl, rfl, _, rfl, ?_⟩
              rw [show decide (V.str "times" = V.str "times") = true from decide_eq_true rfl]
              refine iteT ⟨_, rfl, _, rfl, _, rfl, ps, _, 2, _, rfl, rfl, hS, rfl, ?_⟩
              refine ⟨b, kn, vc, r1, bk, dn, bkvs, rfl, hc, xw.2, ⟨s3 _ _ nbk hB.o, hB.l, fun n r h => ?_⟩, md, ok, by omega, xin, nbk, by rw [← henv]; exact K3, fun H4 s4 K4 => ?_⟩
              · obtain ⟨v, h1, h2, h3⟩ := hB.it n r h
                exact ⟨v, h1, dp_smx s3 ho hmu (noL_encR r) h2, h3⟩
              rw [← henv] at K4 ⊢
              have s34 := s3.trans s4
              have hS4 := smx_t s34 ho hmu hS0
              refine ⟨_, rfl, _, rfl, ?_⟩
              cases e1 : evR opsN env r1 0 with
              | none =>
                rw [show decide (oV none = V.non) = true from decide_eq_true rfl]
                exact iteT ⟨rfl, s34, K4⟩
              | some w =>
                have w6 := evR_le r1 0 w (Nat.zero_le _) e1
                rw [show decide (oV (some w) = V.non) = false from decide_eq_false nofun]
                refine iteF ⟨_, rfl, _, rfl, ps, _, 1, _, rfl, rfl, hS4, rfl, _, _, rfl, rfl, ?_, ?_, s34, K4⟩
                · refine wide_mul (a := 300) (b := 300) ?_ ?_ (by decide) (by decide) (by decide)
                  · rw [Int.natAbs_natCast]; exact Nat.lt_of_le_of_lt w6 (by decide)
                  · rw [Int.natAbs_natCast]; exact Nat.lt_of_le_of_lt xw.1 (by decide)
                · show _ = [_, _, _, _, _, some (V.int ((w * m1 : Nat) : Int))]
                  rw [Int.natCast_mul]
                  rfl
          · rintro σ H4 ⟨rfl, s4, K4⟩
            rw [er, evR] at ev
            cases e1 : evS opsN env x with
            | none =>
              rw [e1] at ev
              have ev : evR opsN env r 0 = none := ev
              rw [ev] at q
              refine ⟨_, rfl, _, rfl, ?_⟩
              rw [show decide (oV none = V.non) = true from decide_eq_true rfl]
              exact iteT (iteT (q H4 s4 K4))
            | some w =>
              rw [e1] at ev
              have ev : evR opsN env r 0 = (if 10 ^ 60 < c + w then none else some (c + w)).bind fun b => evR opsN env (r.drop (i + 1)) b := ev
              refine ⟨_, rfl, _, rfl, ?_⟩
              rw [show decide (oV (some w) = V.non) = false from decide_eq_false nofun]
              refine iteF ⟨_, rfl, _, rfl, _, _, rfl, rfl, _, _, rfl, rfl, ⟨by decide, by decide, by decide⟩, _, _, rfl, rfl, _, rfl, ?_⟩
              have e60 : (10 : Int) ^ (60 : Int).toNat = ((10 ^ 60 : Nat) : Int) := by decide
              rw [e60]
              by_cases big : 10 ^ 60 < c + w
              · rw [if_pos big] at ev
                have ev : evR opsN env r 0 = none := ev
                rw [ev] at q
                rw [decide_eq_true (by omega)]
                exact iteT (q H4 s4 K4)
              · rw [if_neg big] at ev
                have ev : evR opsN env r 0 = evR opsN env (r.drop (i + 1)) (c + w) := ev
                rw [decide_eq_false (by omega)]
                exact iteF ⟨_, rfl, _, rfl, _, _, rfl, rfl, _, _, c + w, rfl, s4, K4, by omega, ev⟩
      · rintro σ H1 ⟨y4, y5, c, rfl, s1, K1, c60, ev⟩
        rw [List.drop_of_length_le (by omega), evR] at ev
        rw [ev] at q
        exact ⟨_, rfl, q H1 s1 K1⟩
theorem ok_count {k : Nat} (B : BM mg) (L : RL K mg f_of f_draw f_letters f_number f_names f_flat f_count f_tower d_of d_draw d_letters d_number d_names d_flat d_count d_tower) : ∀ m, FnOk P w K mg base CX0 (k + 2 + m) f_count d_count ["_law_book_it", "_law_known", "_law_tree"] (spCount K m)
  | 0 => ok_count_of (k := k + 1) (spC := fun _ _ _ _ => False) B L (L.count.F.ok scCount (fun vs H Q E h => False.elim h) (fun cdv A outer s H vs Q E hr h => False.elim h)) fun m e => by cases e
  | n + 1 => ok_count_of (k := k + 2 + n) B L (ok_count B L n) fun m e => by cases e; rfl
end
end NC
namespace NC
open PySem PySem.Spec PyProof.Rows L2
def FnO (f : Addr) (o : Obj) : HO := .ext fun h => h.get? f = some o
theorem fnO_ne {f : Addr} {o : Obj} (ps : Array Value) : FnO f o ≠ .tbl ps := fun z => by unfold FnO at z; cases z
section
variable {X : Cx} {pins : List (Addr × Obj)} {σ : L2.St} {H : Hp} {s : Shared} {T : List (Addr × Str)} {c P : Addr} {params : Arguments} {body : Expr} {scope : Scope} {pos : Pos}
abbrev lamO (X : Cx) (params : Arguments) (body : Expr) (scope : Scope) (pm : Value) (c' : Addr) (ctv : Value) : Obj := PySem.W.kla_obj "<lambda>" (X.env.qual ++ "<lambda>") params body scope (cloFrom X.env.cells scope.names []) pm c' ctv
/-- what a kept lambda does when it is called: t, read in the maker's slots as they are then -/
def LamOk (X : Cx) (k : Nat) (G : Hp) (f : Addr) (t : XK → TE) : Prop := ∃ (params : Arguments) (body : Expr) (scope : Scope) (pm : Value) (c' : Addr) (ctv : Value), LamX.LamS X.env.scope scope ∧ G f = some (FnO f (lamO X params body scope pm c' ctv)) ∧ G c' = some (LamX.CodeO c' (X.env.qual ++ "<lambda>")) ∧
  bindArgs (PySem.W.kla_fn "<lambda>" (X.env.qual ++ "<lambda>") params body scope (cloFrom X.env.cells scope.names []) pm (.ref c') ctv) ⟨[], []⟩ = pure [] ∧
  ∀ (A : Around) (out : List Env) (s : Shared) (H : Hp) (E : XK), Room k (A.deeper (LamX.lamEnv X scope s.heap.objs.size f c')) → PE (LamX.lamCx X A out s H E scope f c') body (t E)
theorem LamOk.ext {k : Nat} {G G1 : Hp} {f : Addr} {t : XK → TE} (h : LamOk X k G f t) (e : LamX.ExtN G G1) : LamOk X k G1 f t := by
  obtain ⟨params, body, scope, pm, c', ctv, a, b, c, d, r⟩ := h
  exact ⟨params, body, scope, pm, c', ctv, a, e _ _ b fnO_ne, e _ _ c LamX.codeO_ne, d, r⟩
end
end NC
namespace NC
open PySem PySem.Spec PyProof.Rows L2
abbrev sTold : Stmt := topS 46
abbrev nTold : List Str := ["_law_ask", "_law_found", "e"]
theorem scTold : FnScope nTold ["_law_ask"] (defScope sTold) := ⟨rfl, rfl, rfl, by decide +kernel, rfl, by decide +kernel, by decide +kernel⟩
/-- e.f in a suite, the class told by the reading -/
def tXfG (K : PySem.W.Frag) (a : Addr) (cls : Value) (d : Option Addr) (f : Str) (te : TE) : TE := fun σ H Q => te σ H fun x H1 => x = .ref a ∧ ∃ (C dd : Addr) (fs : List (Str × V)) (v : V), cls = .ref C ∧ XfC K C ∧ PySem.W.findIn K (.ref C) f = some none ∧ d = some dd ∧ H1 dd = some (.xd fs) ∧ fs.lookup f = some v ∧ Q v H1
theorem pe_xfG {X : Cx} {a : Addr} {oe : Obj} {cls : Value} {d : Option Addr} {pn : List (Addr × Obj)} {e : Expr} {i : Nat} {pos : Pos} {n : Str} (hz : Zc cls d oe) (hf : ∃ vs, oe.data = .fields vs) (at_ : PE (X.suite a ((a, oe) :: pn)) e (tVar i))
    (hb : attributeBase e n X.env (eval e X.env) = eval e X.env := by rfl) : PE (X.suite a ((a, oe) :: pn)) (.Attribute e n pos) (tXfG X.K a cls d n (tVar i)) :=
  ⟨fun ps s σ H Q I ⟨v, sv, ev, C, dd, fs, u, ec, T, no, ed, ea, lu, q⟩ => (pe_xf (C := C) T no hz hf at_ hb).run ps s σ H Q I ⟨v, sv, ev, ec, dd, fs, u, ed, ea, lu, q⟩⟩
theorem takes_len {X : Cx} {W : WX} (t : Takes X W) : Takes X (fun c d σ H => σ.length = X.N.length → W c d σ H) := fun u s' ⟨a, B, sI, pins, σ, H, cls, d, e, I, nb, up, sky, na, os, ag, w⟩ =>
  t u s' ⟨a, B, sI, pins, σ, H, cls, d, e, I, nb, up, sky, na, os, ag, w I.len⟩
def FldAt (K : PySem.W.Frag) (cls : Value) (d : Option Addr) (f : Str) (H : Hp) (q : V → Prop) : Prop := ∃ (C dd : Addr) (fs : List (Str × V)) (v : V), cls = .ref C ∧ XfC K C ∧ PySem.W.findIn K (.ref C) f = some none ∧ d = some dd ∧ H dd = some (.xd fs) ∧ fs.lookup f = some v ∧ q v
/-- what _law_told makes of TooMany -/
def EchM (K : PySem.W.Frag) (CT_ : Addr) (Q : VK) : XK := fun cls d H' => PySem.W.exmOne K cls (.ref CT_) = some true ∧ FldAt K cls d "most" H' fun v => ∀ p, H' p = none → Q (.ref p) (upd H' p (.tup [.str "toomany", v]))
def spTold (K : PySem.W.Frag) (CT_ : Addr) : Addr → (XK → Hp → VK → Prop) → List V → Hp → VK → Prop := fun f tl vs H Q => vs = [.ref f] ∧ tl (EchM K CT_ Q) H fun x H1 => ∃ v, some (some x) = some (some v) ∧ Q v H1
section
variable {P : Program} {w : World} {K : PySem.W.Frag} {mg : Str → Option Value} {base : Heap}
set_option maxHeartbeats 1000000 in
theorem ok_told {g CT_ : Addr} {fd : FuncData} {k : Nat} (F : Fun K "_law_told" "_law_told" sTold g fd) (hT : mg "TooMany" = some (.ref CT_)) : Uses P w K mg base k (k + 2) g fd ["_law_ask"] (spTold K CT_) := by
  refine uses_of F scTold fun cdv A out s H vs Q f J tl hr a jH h => ?_
  obtain ⟨rfl, h⟩ := h
  have nd := scTold.nd
  refine ⟨_, pss_cons (ps_try_manyA (X := (cxOf C8.CX0 P w K mg base nTold "_law_told" (defScope sTold) g cdv A out s H C8.E0).nox)
      (tb := fun W D σ G => ∃ Ech : XK, (∀ cls d σ' H', Ech cls d H' → σ'.length = 3 → W cls d σ' H') ∧ (σ[0]? = some (some (.ref f)) ∧ J G ∧ tl Ech G fun x H1 => D.nx (σ.set 1 (some x)) H1))
      (l := [(.ref CT_, 2, fun a cls d => tAsg (tTup (tCons (tC (.str "toomany")) (tCons (tXfG K a cls d "most" (tVar 2)) tNil))) (gName 1))])
      rfl rfl nd LamX.takes0 (fun W pn xe tk => ?_)
      (.cons ⟨rfl, rfl, ⟨rfl, by decide, .inl hT⟩, fun a oe cls d pn hz hf => pss_one (ps_set (i := 1) nd rfl (.inl rfl) (pe_tup (pa_cons pe_str (pa_cons (pe_xfG hz hf (pv 2)) pa_nil))))⟩ .nil))
    (pss_one (ps_ret (pv 1))), ?_⟩
  · refine ⟨fun pins s' σ G D I h' => ?_⟩
    obtain ⟨Ech, hW, h3⟩ := h'
    exact (pss_one (ps_set (X := (cxOf C8.CX0 P w K mg base nTold "_law_told" (defScope sTold) g cdv A out s H C8.E0).nox.tr pn xe) (i := 1) nd rfl (.inl rfl) (pe_thunk (E := Ech) a rfl (passes_call (takes_len tk) hW) hr (pv 0)))).run pins s' σ G D I h3
  · refine ⟨EchM K CT_ Q, fun cls d σ' H' he hl => ?_, rfl, jH, ?_⟩
    · obtain ⟨y0, y1, y2, rfl⟩ : ∃ y0 y1 y2, σ' = [y0, y1, y2] := by
        match σ', hl with
        | [a, b, c], _ => exact ⟨a, b, c, rfl⟩
      obtain ⟨hm, C, dd, fs, v, e1, e2, e3, e4, e5, e6, e7⟩ := he
      exact ⟨true, hm, fun _ a na => ⟨_, rfl, rfl, C, dd, fs, v, e1, e2, e3, e4, e5, e6, by show 2 ≤ sizeLine; decide, fun p np => ⟨_, rfl, e7 p np⟩⟩, fun z => by cases z⟩
    · exact h
end
end NC
namespace NC
open PySem PySem.Spec PyProof.Rows L2
abbrev sLaw : Stmt := topS 47
abbrev nLaw : List Str := ["_law_script", "_law_d", "_law_names_here", "_law_k", "_law_name", "_law_due", "_law_told_here", "_law_found", "_law_book_it", "_law_long", "_law_more", "_law_most_it", "_law_tree"]
theorem scLaw : FnScope nLaw ["_law_script"] (defScope sLaw) := ⟨rfl, rfl, rfl, by decide +kernel, rfl, by decide +kernel, by decide +kernel⟩
/-- the name of the law's lambdas -/
def lamN (c : Value) : Str := (envOfC "law" (defScope sLaw) 0 0 c).qual ++ "<lambda>"
def spLawT (K : PySem.W.Frag) (T : List (Addr × Str)) : Sp := fun vs H Q _ => ∃ (a : Addr) (ns : List Int), vs = [.ref a] ∧ SqL K H a (ns.map V.int) ∧ LamX.Tabs T H ∧ ∀ H', Q (.bl true) H'
structure EX (K : PySem.W.Frag) (CT_ : Addr) : Prop where
  t : XfC K CT_
  tt : PySem.W.exmOne K (.ref CT_) (.ref CT_) = some true
/-- TooMany, let by the law's own try -/
theorem ech_t {K : PySem.W.Frag} {CT_ : Addr} {n : Int} (X : EX K CT_) (hf : PySem.W.findIn K (.ref CT_) "most" = some none) {G : Hp} {Q : VK} (q : ∀ G' p, Same G G' → G' p = none → Q (.ref p) (upd G' p (.tup [.str "toomany", .int n]))) :
    ∀ H' d, Same G H' → H' d = some (.xd [("most", .int n), ("word", .str "toomany")]) → EchM K CT_ Q (.ref CT_) (some d) H' := fun H' d s e =>
  ⟨X.tt, CT_, d, _, _, rfl, X.t, hf, rfl, e, rfl, fun p np => q H' p s np⟩
theorem tabs_smx {T : List (Addr × Str)} {H H' : Hp} {d : Addr} (t : LamX.Tabs T H) (D : Dr H d) (s : SmX d H H') : LamX.Tabs T H' := fun p hp => by
  obtain ⟨ps, h1, h2, h3⟩ := t p hp
  obtain ⟨c0, ns, i, a, b, e, hd, _⟩ := D
  refine ⟨ps, s _ _ (ne_of h1 hd fun z => by cases z) h1, h2, fun pos cv hc => ?_⟩
  obtain ⟨c, e1, e2⟩ := h3 pos cv hc
  exact ⟨c, e1, s _ _ (ne_of e2 hd fun z => by unfold LamX.CodeO at z; cases z) e2⟩
theorem Dr.ext {H H' : Hp} {d : Addr} (h : Dr H d) (e : LamX.ExtN H H') : Dr H' d := by
  obtain ⟨c, ns, i, a, b, f, h1, h2, h3⟩ := h
  exact ⟨c, ns, i, a, b, f, e _ _ h1 (fun _ z => by cases z), e _ _ h2 (fun _ z => by cases z), h3⟩
theorem sqt_ext {K : PySem.W.Frag} {H H' : Hp} (e : LamX.ExtN H H') {a : Addr} {xs : List V} (h : SqT K H a xs) : SqT K H' a xs := by
  rcases h with (h | ⟨o, h⟩) | h
  · exact .inl (.inl (e _ _ h (fun _ z => by cases z)))
  · exact .inl (.inr ⟨o, e _ _ h (fun _ z => by cases z)⟩)
  · exact .inr h
mutual
theorem dp_ext {K : PySem.W.Frag} {H H' : Hp} (e : LamX.ExtN H H') : ∀ {v : V} {d : PyData}, noL d = true → Dp K H v d → Dp K H' v d
  | _, _, _, .non => .non
  | _, _, _, .bl b => .bl b
  | _, _, _, .int i => .int i
  | _, _, _, .str x => .str x
  | _, _, n, .lst h a => by rw [noL] at n; cases n
  | _, _, n, .tup h a => .tup (sqt_ext e h) (dpa_ext e (by rw [noL] at n; exact n) a)
theorem dpa_ext {K : PySem.W.Frag} {H H' : Hp} (e : LamX.ExtN H H') : ∀ {vs : List V} {ds : List PyData}, noLA ds = true → DpAll K H vs ds → DpAll K H' vs ds
  | _, _, _, .nil => .nil
  | _, _, n, .cons a b => by
    rw [noLA, Bool.and_eq_true] at n
    exact .cons (dp_ext e n.1 a) (dpa_ext e n.2 b)
end
def tmD (n : Int) : PyData := .tuple [.str "toomany", .int n]
theorem okTM : okS "toomany" := by
  rw [show (Str.ofString "toomany") = tx [116, 111, 111, 109, 97, 110, 121] by decide +kernel]
  exact okS_tx (by decide)
theorem sh_tm (n : Int) : SeqAt.shaped (tmD n) = true := by
  have q := strOk_of okTM
  show (PyData.canLay0 _ && decide (PyData.depth _ ≤ 64)) = true
  simp [tmD, PyData.canLay0, PyData.canLayAll0, PyData.depth, PyData.depthAll, q]
theorem ev_tm (n : Int) : PyData.eqv (tmD n) (tmD n) = true := by simp [tmD, PyData.eqv, PyData.eqvAll]
theorem dp_tm {K : PySem.W.Frag} {H : Hp} {p : Addr} {n : Int} (h : H p = some (.tup [.str "toomany", .int n])) : Dp K H (.ref p) (tmD n) := .tup (SqT.of h) (.cons (.str _) (.cons (.int _) .nil))
theorem alk_tm {K : PySem.W.Frag} {H : Hp} {p q : Addr} {n : Int} (h1 : H p = some (.tup [.str "toomany", .int n])) (h2 : H q = some (.tup [.str "toomany", .int n])) : Alk K H 2 (.ref p) (.ref q) :=
  .tup (SqT.of h1) (SqT.of h2) rfl (by show 2 ≤ 5000; decide) fun i a b ha hb => by
    rw [ha] at hb
    cases hb
    match i, ha with
    | 0, ha => cases ha; exact .str _
    | 1, ha => cases ha; exact .int _
def ixOf (nm : Nat → List Nat) (x : List Nat) : Option Nat := (List.range 6).find? fun i => decide (nm i = x)
def bkOf (nm : Nat → List Nat) (rw' : Nat → List Stp) (x : List Nat) : Option (List Stp) := (ixOf nm x).map rw'
def dnOf (nm : Nat → List Nat) (x : List Nat) : Nat := match ixOf nm x with | some i => 2 * i + 3 | none => 0
def bkV (nm : Nat → List Nat) (vs : Nat → V) (n : Nat) : List (Key × V) := (List.range n).map fun i => (kN (nm i), vs i)
theorem ix_some {nm : Nat → List Nat} {x : List Nat} {i : Nat} (h : ixOf nm x = some i) : i < 6 ∧ nm i = x := by
  unfold ixOf at h
  have := List.mem_of_find?_eq_some h
  have h2 := List.find?_some h
  exact ⟨List.mem_range.mp this, of_decide_eq_true h2⟩
theorem ix_nm {nm : Nat → List Nat} (N : NmOk nm) {i : Nat} (hi : i < 6) : ixOf nm (nm i) = some i := by
  cases e : ixOf nm (nm i) with
  | none =>
    unfold ixOf at e
    have := List.find?_eq_none.mp e i (List.mem_range.mpr hi)
    exact absurd (decide_eq_true rfl) this
  | some j =>
    have := ix_some e
    rw [N.inj j i this.1 hi this.2]
theorem bk_at {nm : Nat → List Nat} {rw' : Nat → List Stp} (N : NmOk nm) {i : Nat} (hi : i < 6) : bkOf nm rw' (nm i) = some (rw' i) := by
  unfold bkOf
  rw [ix_nm N hi]
  rfl
theorem dn_at {nm : Nat → List Nat} (N : NmOk nm) {i : Nat} (hi : i < 6) : dnOf nm (nm i) = 2 * i + 3 := by
  unfold dnOf
  rw [ix_nm N hi]
theorem bk_some {nm : Nat → List Nat} {rw' : Nat → List Stp} {x : List Nat} {r : List Stp} (h : bkOf nm rw' x = some r) : ∃ i, i < 6 ∧ nm i = x ∧ r = rw' i := by
  unfold bkOf at h
  obtain ⟨i, hi, rfl⟩ := Option.map_eq_some_iff.mp h
  have := ix_some hi
  exact ⟨i, this.1, this.2, rfl⟩
theorem dn_ok {nm : Nat → List Nat} {rw' : Nat → List Stp} (N : NmOk nm) {k : Nat} (hk : k ≤ 6) : dnOk nm k (dnOf nm) (bkOf nm rw') := fun i hi => ⟨dn_at N (by omega), by rw [bk_at N (by omega)]; rfl⟩
theorem bk_len (nm : Nat → List Nat) (vs : Nat → V) (n : Nat) : (bkV nm vs n).length = n := by unfold bkV; rw [List.length_map, List.length_range]
theorem bk_val {nm : Nat → List Nat} {vs : Nat → V} (N : NmOk nm) : ∀ n, n ≤ 6 → ∀ i, i < 6 → valV (bkV nm vs n) (kN (nm i)) = if i < n then some (vs i) else none
  | 0, _, i, _ => rfl
  | n + 1, hn, i, hi => by
    have ih := bk_val (vs := vs) N n (by omega)
    have e : bkV nm vs (n + 1) = bkV nm vs n ++ [(kN (nm n), vs n)] := by
      unfold bkV
      rw [List.range_succ, List.map_append]
      rfl
    have n0 : valV (bkV nm vs n) (kN (nm n)) = none := by rw [ih n (by omega), if_neg (by omega)]
    rw [e, ← putK_new (vs n) n0, valV_put, ih i hi]
    by_cases z : i = n
    · rw [z, if_pos rfl, if_pos (by omega)]
    · rw [if_neg (fun h => z (N.inj i n hi (by omega) (kN_inj h)))]
      by_cases l : i < n
      · rw [if_pos l, if_pos (by omega)]
      · rw [if_neg l, if_neg (by omega)]
theorem bk_put {nm : Nat → List Nat} {vs : Nat → V} (N : NmOk nm) {n : Nat} (hn : n < 6) (v : V) : putK (bkV nm vs n) (kN (nm n)) v = bkV nm (fun i => if i = n then v else vs i) (n + 1) := by
  have n0 : valV (bkV nm vs n) (kN (nm n)) = none := by rw [bk_val N n (by omega) n hn, if_neg (by omega)]
  rw [putK_new v n0]
  unfold bkV
  rw [List.range_succ, List.map_append]
  congr 1
  · apply List.map_congr_left
    intro i hi
    have := List.mem_range.mp hi
    show (kN (nm i), vs i) = (kN (nm i), if i = n then v else vs i)
    rw [if_neg (by omega)]
  · show [(kN (nm n), v)] = [(kN (nm n), if n = n then v else vs n)]
    rw [if_pos rfl]
/-- what stands while the law asks -/
structure LS (K : PySem.W.Frag) (T : List (Addr × Str)) (d nl b : Addr) (nm : Nat → List Nat) (rw' : Nat → List Stp) (vs : Nat → V) (H : Hp) : Prop where
  D : Dr H d
  T : LamX.Tabs T H
  N : H nl = some (.lst (nmV6 nm))
  B : H b = some (.dK (bkV nm vs 6))
  tr : ∀ i, i < 6 → Dp K H (vs i) (encR (rw' i))
section
variable {K : PySem.W.Frag} {T : List (Addr × Str)} {d nl b : Addr} {nm : Nat → List Nat} {rw' : Nat → List Stp} {vs : Nat → V} {H H' : Hp}
theorem LS.same (S : LS K T d nl b nm rw' vs H) (s : Same H H') : LS K T d nl b nm rw' vs H' := ⟨S.D.same s, S.T.ext s, s _ _ S.N, s _ _ S.B, fun i hi => dp_same s (S.tr i hi)⟩
theorem LS.ext (S : LS K T d nl b nm rw' vs H) (e : LamX.ExtN H H') (t : LamX.Tabs T H') : LS K T d nl b nm rw' vs H' := ⟨S.D.ext e, t, e _ _ S.N (fun _ z => by cases z), e _ _ S.B (fun _ z => by cases z), fun i hi => dp_ext e (noL_encR _) (S.tr i hi)⟩
theorem LS.smd (S : LS K T d nl b nm rw' vs H) (n1 : nl ≠ d) (s : SmD d H H') (D' : Dr H' d) : LS K T d nl b nm rw' vs H' := by
  have nb : b ≠ d := fun z => by
    obtain ⟨xs, h⟩ := S.D.o
    rw [← z, S.B] at h
    cases h
  obtain ⟨o, ho⟩ := S.D.o
  exact ⟨D', tabs_smx S.T S.D s.1, s.1 _ _ n1 S.N, s.1 _ _ nb S.B, fun i hi => dp_smx s.1 ho (.inl ⟨_, rfl⟩) (noL_encR _) (S.tr i hi)⟩
theorem LS.bk (S : LS K T d nl b nm rw' vs H) (N : NmOk nm) (O : ∀ i, i < 6 → TowOk nm i (rw' i)) : ∀ n r, bkOf nm rw' n = some r → ∃ v, valV (bkV nm vs 6) (kN n) = some v ∧ Dp K H v (encR r) ∧ wfR r = true := fun n r h => by
  obtain ⟨i, hi, rfl, rfl⟩ := bk_some h
  exact ⟨vs i, by rw [bk_val N 6 (Nat.le_refl _) i hi, if_pos hi], S.tr i hi, (O i hi).w⟩
theorem LS.bkl (S : LS K T d nl b nm rw' vs H) (N : NmOk nm) (O : ∀ i, i < 6 → TowOk nm i (rw' i)) : BkL K H b (bkOf nm rw') (bkV nm vs 6) := ⟨S.B, by rw [bk_len, sizeLine_eq]; decide, S.bk N O⟩
theorem LS.bki (S : LS K T d nl b nm rw' vs H) (N : NmOk nm) (O : ∀ i, i < 6 → TowOk nm i (rw' i)) : BkIn K H (.ref b) (bkOf nm rw') := .inr ⟨b, _, rfl, S.B, by rw [bk_len, sizeLine_eq]; decide, S.bk N O⟩
end
theorem bk_md {nm : Nat → List Nat} {rw' : Nat → List Stp} (N : NmOk nm) (O : ∀ i, i < 6 → TowOk nm i (rw' i)) : ∀ n r, bkOf nm rw' n = some r → mdR (dnOf nm) r ≤ dnOf nm n := fun n r h => by
  obtain ⟨i, hi, rfl, rfl⟩ := bk_some h
  rw [dn_at N hi]
  exact ((O i hi).m _ _ (dn_ok (rw' := rw') N (by omega))).1
theorem bk_in {nm : Nat → List Nat} {rw' : Nat → List Stp} (N : NmOk nm) (O : ∀ i, i < 6 → TowOk nm i (rw' i)) : ∀ n r, bkOf nm rw' n = some r → inR (bkOf nm rw') r := fun n r h => by
  obtain ⟨i, hi, rfl, rfl⟩ := bk_some h
  exact ((O i hi).m _ _ (dn_ok (rw' := rw') N (by omega))).2
def TldN (H : Hp) (tv : V) : Option Nat → Prop
  | none => ∃ p, tv = .ref p ∧ H p = some (.tup [.str "toomany", .int (10 ^ 60)])
  | some n => tv = .int (n : Nat)
def FndAt (H : Hp) (fv : V) (n most : Nat) : Prop := (most < n ∧ ∃ p, fv = .ref p ∧ H p = some (.tup [.str "toomany", .int (most : Nat)])) ∨ (¬ most < n ∧ ∃ p xs, fv = .ref p ∧ H p = some (.lst xs) ∧ xs.length = n)
def LG : List Stp := [.times 20 (List.replicate 20 (.call []))]
def MR : List Stp := .call [] :: LG
theorem lg_ev : evR opsN (envOf opsN (fun _ => none) fun _ => 0) LG 0 = some 400 := by decide +kernel
theorem mr_ev : evR opsN (envOf opsN (fun _ => none) fun _ => 0) MR 0 = some 401 := by decide +kernel
theorem inR_calls (bk : List Nat → Option (List Stp)) : ∀ n, inR bk (List.replicate n (.call []))
  | 0 => by rw [List.replicate_zero, inR]; exact trivial
  | n + 1 => by rw [List.replicate_succ, inR, inS]; exact ⟨trivial, inR_calls bk n⟩
theorem lg_in (bk : List Nat → Option (List Stp)) : inR bk LG := by
  unfold LG
  rw [inR, inS, inR]
  exact ⟨inR_calls bk 20, trivial⟩
theorem mr_in (bk : List Nat → Option (List Stp)) : inR bk MR := by
  unfold MR
  rw [inR, inS]
  exact ⟨trivial, lg_in bk⟩
theorem slot4 {x : Int} (h0 : 0 ≤ x) (h4 : x ≤ 400) : ∃ m : Nat, m ≤ 400 ∧ x = (m : Nat) := ⟨x.toNat, by omega, by omega⟩
section
variable {P : Program} {w : World} {K : PySem.W.Frag} {mg : Str → Option Value} {base : Heap} {SC RC CC LC CH fH CT fT f_ma f_cr f_my f_sp f_same f_start f_told : Addr} {eH eT d_ma d_cr d_my d_sp d_same d_start d_told : FuncData} {g_Si g_Ri g_be g_ad g_do g_st g_fi g_wo h_no h_of h_jn h_rp f_w f_n f_nu f_tu f_pl f_gh f_ls f_lb f_ir l_in l_no l_of l_jn l_rp f_of f_draw f_letters f_number f_names f_flat f_count f_tower : Addr} {e_Si e_Ri e_be e_ad e_do e_st e_fi e_wo o_no o_of o_jn o_rp d_w d_n d_nu d_tu d_pl d_gh d_ls d_lb d_ir m_in m_no m_of m_jn m_rp d_of d_draw d_letters d_number d_names d_flat d_count d_tower : FuncData}
set_option maxHeartbeats 16000000 in
theorem ok_law {f c PT_ : Addr} {kV doc pm ct oc : Value} {an od : Option Addr} {osl : Array (Option Value)} {k : Nat}
    (lk : K.lookup f = some ⟨oc, od, .func (PySem.W.fnOf "law" "law" (defArgs sLaw) (defBody sLaw) (defScope sLaw) .none kV doc pm an (.ref c) ct), osl⟩) (hcd : PySem.W.codeIn K (.ref c) "law" = true) (TB : LamX.TabB base mg c PT_)
    (EE : EX K CT) (T : HE K mg CH fH eH) (X : XC K mg "TooMany" "TooMany.__init__" sTMinit "most" CT fT eT) (W : RowD K mg f_w f_n f_nu f_tu f_pl f_gh f_ls f_lb f_ir d_w d_n d_nu d_tu d_pl d_gh d_ls d_lb d_ir) (Y : DF K mg "check_row" sChkRow ["tree"] f_cr d_cr)
    (R : RkC K mg SC RC g_Si g_Ri g_be g_ad g_do g_st g_fi g_wo e_Si e_Ri e_be e_ad e_do e_st e_fi e_wo) (Cm : CmC K mg CC h_no h_of h_jn h_rp o_no o_of o_jn o_rp) (Lm : LmC K mg LC l_in l_no l_of l_jn l_rp m_in m_no m_of m_jn m_rp) (Ma : DF K mg "made_of" sMadeOf ["maker", "tree", "book"] f_ma d_ma)
    (My : FunD K "many_done" "many_done" (defArgs sMany) (defBody sMany) (defScope sMany) [] [("book", .non)] f_my d_my) (gMy : mg "many_done" = some (.ref f_my)) (kMy : KBn K d_my ["tree", "book"] 1 ["book"] (gAp (α := Value)) gAp)
    (Sp : FunD K "spelled" "spelled" (defArgs sSpelled) (defBody sSpelled) (defScope sSpelled) [] [("book", .non), ("most", .int 400)] f_sp d_sp) (gSp : mg "spelled" = some (.ref f_sp)) (kS : KBn K d_sp ["tree", "book", "most"] 1 ["book", "most"] (gAp (α := Value)) gAp)
    {v1 v2 : Value} (bS : Binds K d_sp ["tree", "book", "most"] [v1, v2]) (rv1 : RelV .non v1) (rv2 : RelV (.int 400) v2)
    (B : BM mg) (mb : mg "bool" = none) (ms : mg "str" = none) (zmax : mg "max" = none) (Sm : DF K mg "_law_same" sSame ["_law_x", "_law_due"] f_same d_same) (St : DF K mg "_law_start" sStart ["_law_script"] f_start d_start) (To : DF K mg "_law_told" sTold ["_law_ask"] f_told d_told)
    (L : RL K mg f_of f_draw f_letters f_number f_names f_flat f_count f_tower d_of d_draw d_letters d_number d_names d_flat d_count d_tower) {tML : Tok} (hML : mg "MOST_LISTED" = some (.int 400 tML)) :
    FnOk P w K mg base CX0 (k + 37) f (PySem.W.fnOf "law" "law" (defArgs sLaw) (defBody sLaw) (defScope sLaw) .none kV doc pm an (.ref c) ct) ["_law_script"] (spLawT K [(PT_, lamN (.ref c))]) := by
  have GSt : FnOk P w K mg base CX0 (k + 1) f_start d_start ["_law_script"] (spStart K) := ok_start B St.F
  have GD : FnOk P w K mg base CX0 (k + 1) f_draw d_draw ["_law_d", "_law_many"] spDraw := ok_draw B L.draw.F
  have GN : FnOk P w K mg base CX0 (k + 2) f_names d_names ["_law_d", "_law_many"] spNames := ok_names B L
  have GTw : FnOk P w K mg base CX0 (k + 4) f_tower d_tower ["_law_d", "_law_names_here", "_law_k"] (spTower K) := ok_tower B L
  have GCt : FnOk P w K mg base CX0 (k + 2 + 15) f_count d_count ["_law_book_it", "_law_known", "_law_tree"] (spCount K 15) := ok_count B L 15
  have GF : FnOk P w K mg base CX0 (k + 1) f_flat d_flat ["_law_steps"] (spFlat K) := ok_flat B L
  have GS : FnOk P w K mg base CX0 (k + 4) f_same d_same ["_law_x", "_law_due"] (spYes K 2) := ok_yes (k := k) B mb ms Sm 2
  have GMy : FnOk P w K mg base (L2.CX P w) (k + 33) f_my d_my ["tree", "book"] (spMany K CT) := ok_many W Y R Cm T X Ma My
  have GSp : FnOk P w K mg base (L2.CX P w) (k + 34) f_sp d_sp ["tree", "book", "most"] (spSpelled K CT) := ok_spelled W Y R Cm Lm T X Ma My gMy kMy Sp
  have UT : Uses P w K mg base (k + 34) (k + 36) f_told d_told ["_law_ask"] (spTold K CT) := ok_told To.F X.gC
  obtain ⟨tMD, hMD⟩ := Cm.cD
  refine fn_of lk hcd scLaw (fun vs H Q E h => ?_) (fun A outer st H vs Q E hr h => ?_)
  · obtain ⟨a, ns, rfl, _⟩ := h
    rfl
  · obtain ⟨a, ns, rfl, hS, hT, q⟩ := h
    have r1 : Room (k + 1) _ := hr.mono (by omega)
    have r2 : Room (k + 2) _ := hr.mono (by omega)
    have r4 : Room (k + 4) _ := hr.mono (by omega)
    have r17 : Room (k + 2 + 15) _ := hr.mono (by omega)
    have nd := scLaw.nd
    have hu := hr.units
    refine ⟨_, PSs.nox (pss_cons (ps_set (i := 1) nd rfl (.inl rfl) (pe_call GSt r1 rfl St.g St.F.kp St.b .nil pass0 (pa_cons (pv 0) pa_nil)))
      (pss_cons (ps_set (i := 2) nd rfl (.inl rfl) (pe_call GN r2 rfl L.names.g L.names.F.kp L.names.b .nil pass0 (pa_cons (pv 1) (pa_cons pe_int pa_nil))))
      (pss_cons (ps_set (i := 8) nd rfl (.inr rfl) pe_dnewK)
      (C8.pss_cut (ps_for PassesOwn.never rfl (pi_range1 (by rfl) B.range (pa_cons pe_int pa_nil)) (pg_name (i := 3) nd rfl (.inl rfl))
        (pss_one (ps_dput (hu_of hr) (pv 8) (pe_ix ix_list (pv 2) (pv 3) (fun _ _ => rfl)) (pe_call GTw r4 rfl L.tower.g L.tower.F.kp L.tower.b .nil pass0 (pa_cons (pv 1) (pa_cons (pv 2) (pa_cons (pv 3) pa_nil)))) rfl)))
      (C8.pss_cut (ps_for PassesOwn.never rfl (pi_list (pv 2)) (pg_name (i := 4) nd rfl (.inl rfl))
        (pss_cons (ps_set (i := 12) nd rfl (.inr rfl) (pe_dget (hu_of hr) (pv 8) (pv 4) (fun _ _ => rfl)))
      (pss_cons (ps_set (i := 5) nd rfl (.inl rfl) (pe_call GCt r17 rfl L.count.g L.count.F.kp L.count.b .nil pass0 (pa_cons (pv 8) (pa_cons pe_dnewK (pa_cons (pv 12) pa_nil)))))
      (C8.pss_cut (ps_set (i := 6) nd rfl (.inl rfl) (pe_lamU (T := [(PT_, lamN (.ref c))]) (vs0 := []) (t := fun E => tCallN 1 1 (spMany K CT) gAp E (tCons (tVar 12) tNil) (tCons (tVar 8) tNil)) UT hr rfl To.g To.F.kp To.b rfl pa_nil TB rfl (List.mem_cons_self ..) (fun p hp _ => by rw [List.mem_singleton.mp hp]; rfl)
            (LamX.lamS_by (sc := defScope sLaw) (by decide +kernel)) rfl (fun _ _ _ _ _ => rfl)
            (fun A out s H E f c' hr2 => (pe_callN (E := E) (ks := ["book"]) GMy (hr2.mono (by omega)) rfl gMy My.kp kMy (passes_call (takes_of rfl rfl rfl rfl) (fun _ _ _ _ h => h)) (pa_cons (pv 12) pa_nil) (pk_cons (pv 8) pk_nil))) rfl))
      (C8.pss_cut (ps_if (pt_not (pt_val (pe_call GS r4 rfl Sm.g Sm.F.kp Sm.b .nil pass0 (pa_cons (pv 6) (pa_cons (pe_ifExp (pt_cmp (pc_isN (pv 5))) (pe_tup (pa_cons pe_str (pa_cons (pe_op op_pow pe_int pe_int) pa_nil))) (pv 5)) pa_nil))))) (pss_one (ps_ret pe_bl)) pss_nil)
      (C8.pss_cut (ps_if (pt_cmp (pc_isN (pv 5)))
        (pss_cons (ps_if (pt_cmpR (op_neD hu) (pe_lamU (T := [(PT_, lamN (.ref c))]) (vs0 := []) (t := fun E => tCallN 1 2 (spSpelled K CT) gAp E (tCons (tVar 12) tNil) (tCons (tVar 8) (tCons (tC (.int 3)) tNil))) UT hr rfl To.g To.F.kp To.b rfl pa_nil TB rfl (List.mem_cons_self ..) (fun p hp _ => by rw [List.mem_singleton.mp hp]; rfl)
            (LamX.lamS_by (sc := defScope sLaw) (by decide +kernel)) rfl (fun _ _ _ _ _ => rfl)
            (fun A out s H E f c' hr2 => (pe_callN (E := E) (ks := ["book", "most"]) GSp (hr2.mono (by omega)) rfl gSp Sp.kp kS (passes_call (takes_of rfl rfl rfl rfl) (fun _ _ _ _ h => h)) (pa_cons (pv 12) pa_nil) (pk_cons (pv 8) (pk_cons pe_int pk_nil)))) rfl) (pe_tup (pa_cons pe_str (pa_cons (pe_op op_pow pe_int pe_int) pa_nil))) (nomark _))
        (pss_one (ps_ret pe_bl))
        pss_nil)
      (pss_one ps_continue))
        pss_nil)
      (C8.pss_cut (ps_set (i := 11) nd rfl (.inr rfl) (pe_callB (call_max2 rfl) (by rfl) zmax (by decide +kernel) (pa_cons pe_int (pa_cons (pe_callB (call_min2 rfl) (by rfl) Lm.zmin (by decide +kernel) (pa_cons pe_int (pa_cons (pe_op op_sub (pe_op op_add (pv 5) (pe_call GD r1 rfl L.draw.g L.draw.F.kp L.draw.b .nil pass0 (pa_cons (pv 1) (pa_cons pe_int pa_nil)))) pe_int) pa_nil))) pa_nil))))
      (C8.pss_cut (ps_set (i := 7) nd rfl (.inl rfl) (pe_lamU (T := [(PT_, lamN (.ref c))]) (vs0 := []) (t := fun E => tCallN 1 2 (spSpelled K CT) gAp E (tCons (tVar 12) tNil) (tCons (tVar 8) (tCons (tVar 11) tNil))) UT hr rfl To.g To.F.kp To.b rfl pa_nil TB rfl (List.mem_cons_self ..) (fun p hp _ => by rw [List.mem_singleton.mp hp]; rfl)
            (LamX.lamS_by (sc := defScope sLaw) (by decide +kernel)) rfl (fun _ _ _ _ _ => rfl)
            (fun A out s H E f c' hr2 => (pe_callN (E := E) (ks := ["book", "most"]) GSp (hr2.mono (by omega)) rfl gSp Sp.kp kS (passes_call (takes_of rfl rfl rfl rfl) (fun _ _ _ _ h => h)) (pa_cons (pv 12) pa_nil) (pk_cons (pv 8) (pk_cons (pv 11) pk_nil)))) rfl))
      (pss_one (ps_if (pt_cmpR op_gt (pv 5) (pv 11) (nomark _))
        (pss_one (ps_if (pt_cmpR (op_neD hu) (pv 7) (pe_tup (pa_cons pe_str (pa_cons (pv 11) pa_nil))) (nomark _))
        (pss_one (ps_ret pe_bl))
        pss_nil))
        (pss_one (ps_if (PW.pt (pw_or (pt_not (pt_val (pe_callB call_isi (by rfl) B.isinstance boot_isi (pa_cons (pv 7) (pa_cons (pe_bltn (v := .ty "list") (by rfl) B.list (by decide +kernel) rfl) pa_nil))))) (pw_or1 (pt_cmpR op_ne (pe_callB call_len_seq (by rfl) B.len PySem.boot_len (pa_cons (pv 7) pa_nil)) (pv 5) (nomark _)))))
        (pss_one (ps_ret pe_bl))
        pss_nil))))))))))))
      (pss_cons (ps_set (i := 9) nd rfl (.inr rfl) (pe_call GF r1 rfl L.flat.g L.flat.F.kp L.flat.b .nil pass0 (pa_cons (pe_lst (pa_cons (pe_tup (pa_cons pe_str (pa_cons pe_int (pa_cons (pe_call GF r1 rfl L.flat.g L.flat.F.kp L.flat.b .nil pass0 (pa_cons (pe_op op_rep (pe_lst (pa_cons (pe_tup (pa_cons pe_str (pa_cons pe_str pa_nil))) pa_nil)) pe_int) pa_nil)) pa_nil)))) pa_nil)) pa_nil)))
      (C8.pss_cut (ps_if (pt_cmpR op_ne (pe_callB call_len_seq (by rfl) B.len PySem.boot_len (pa_cons (pe_lamU (T := [(PT_, lamN (.ref c))]) (vs0 := []) (t := fun E => tCall (spSpelled K CT) [.non, .int 400] E (tCons (tVar 9) tNil)) UT hr rfl To.g To.F.kp To.b rfl pa_nil TB rfl (List.mem_cons_self ..) (fun p hp _ => by rw [List.mem_singleton.mp hp]; rfl)
            (LamX.lamS_by (sc := defScope sLaw) (by decide +kernel)) rfl (fun _ _ _ _ _ => rfl)
            (fun A out s H E f c' hr2 => (pe_call (E := E) GSp (hr2.mono (by omega)) rfl gSp Sp.kp bS (.cons rv1 (.cons rv2 .nil)) (passes_call (takes_of rfl rfl rfl rfl) (fun _ _ _ _ h => h)) (pa_cons (pv 9) pa_nil))) rfl) pa_nil)) pe_int (nomark _))
        (pss_one (ps_ret pe_bl))
        pss_nil)
      (pss_cons (ps_set (i := 10) nd rfl (.inr rfl) (pe_call GF r1 rfl L.flat.g L.flat.F.kp L.flat.b .nil pass0 (pa_cons (pe_op op_cat (pe_lst (pa_cons (pe_tup (pa_cons pe_str (pa_cons pe_str pa_nil))) pa_nil)) (pe_callTy call_list_of (by rfl) B.list (by decide +kernel) (pa_cons (pe_ix ix_tup (pv 9) pe_int (fun _ _ => rfl)) pa_nil))) pa_nil)))
      (pss_one (ps_ret (pe_and (pe_cmpR (op_eqD hu) (pe_lamU (T := [(PT_, lamN (.ref c))]) (vs0 := []) (t := fun E => tCall (spSpelled K CT) [.non, .int 400] E (tCons (tVar 10) tNil)) UT hr rfl To.g To.F.kp To.b rfl pa_nil TB rfl (List.mem_cons_self ..) (fun p hp _ => by rw [List.mem_singleton.mp hp]; rfl)
            (LamX.lamS_by (sc := defScope sLaw) (by decide +kernel)) rfl (fun _ _ _ _ _ => rfl)
            (fun A out s H E f c' hr2 => (pe_call (E := E) GSp (hr2.mono (by omega)) rfl gSp Sp.kp bS (.cons rv1 (.cons rv2 .nil)) (passes_call (takes_of rfl rfl rfl rfl) (fun _ _ _ _ h => h)) (pa_cons (pv 10) pa_nil))) rfl) (pe_tup (pa_cons pe_str (pa_cons pe_int pa_nil))) (nomark _)) (pe_and (pe_cmpR op_eq (pe_glob (v := .int (10 ^ 60)) rfl hMD ⟨_, rfl⟩) (pe_op op_pow pe_int pe_int) (nomark _)) (pe_one (pe_cmpR op_eq (pe_glob (v := .int 400) rfl hML ⟨_, rfl⟩) pe_int (nomark _))))))))))))))), ?_⟩
    refine ⟨_, rfl, a, ns, rfl, hS, fun H1 d s1 nd1 D1 => ?_⟩
    refine ⟨_, rfl, d, rfl, D1, fun H2 nlA nm s2 D2 nnl enl N => ?_⟩
    have T2 : LamX.Tabs [(PT_, lamN (.ref c))] H2 := tabs_smx (hT.ext s1) D1 s2.1
    have nld : nlA ≠ d := D1.ne nnl
    refine fun bA nbA => ?_
    have nbd : bA ≠ d := D2.ne nbA
    have nbl : nlA ≠ bA := ne_of_none enl nbA
    refine ⟨fun σ H' => ∃ (y3 : Option V) (rw' : Nat → List Stp) (vs : Nat → V), σ = [some (.ref a), some (.ref d), some (.ref nlA), y3, none, none, none, none, some (.ref bA), none, none, none, none] ∧ LS K [(PT_, lamN (.ref c))] d nlA bA nm rw' vs H' ∧ ∀ i, i < 6 → TowOk nm i (rw' i), ?_, ?_⟩
    · refine ⟨6, rfl, by decide, by decide, ?_⟩
      rw [show (6 : Int).toNat = 6 from rfl]
      refine for_it walk_range (fun i σ H' => ∃ (y3 : Option V) (rw' : Nat → List Stp) (vs : Nat → V), σ = [some (.ref a), some (.ref d), some (.ref nlA), y3, none, none, none, none, some (.ref bA), none, none, none, none] ∧ Dr H' d ∧ LamX.Tabs [(PT_, lamN (.ref c))] H' ∧ H' nlA = some (.lst (nmV6 nm)) ∧ H' bA = some (.dK (bkV nm vs i)) ∧ (∀ j, j < i → Dp K H' (vs j) (encR (rw' j)) ∧ TowOk nm j (rw' j)))
        ⟨_, fun _ => [], fun _ => .non, rfl, D2.same (same_upd nbA), T2.ext (same_upd nbA), by rw [upd_ne nbl]; exact enl, upd_same, fun j hj => absurd hj (Nat.not_lt_zero _)⟩ (fun _ _ _ _ _ => trivial) ?_ ?_
      · rintro i v σ H3 H4 hi ⟨y3, rw', vs, rfl, D4, T4, n4, b4, h4⟩ ⟨rfl, rfl⟩
        refine ⟨_, rfl, _, rfl, _, rfl, d, nlA, i, nm, by show [V.ref d, V.ref nlA, V.int ((0 : Int) + (i : Nat))] = _; rw [Int.zero_add], D4, hi, N, nld, n4, fun H5 v r s5 D5 hd ok => ?_⟩
        have n5 := s5.1 _ _ nld n4
        have b5 := s5.1 _ _ nbd b4
        have at1 : (nmV6 nm)[i]? = some (.str (tx (nm i))) := by
          unfold nmV6
          rw [List.getElem?_map, List.getElem?_range hi]
          rfl
        refine ⟨_, rfl, _, rfl, _, rfl, nlA, _, _, .str (tx (nm i)), rfl, rfl, SqL.of n5, ?_, bA, _, rfl, DPut.k (k := kN (nm i)) b5 (by rw [bk_len, sizeLine_eq]; omega), ?_⟩
        · show atI (nmV6 nm) ((0 : Int) + (i : Nat)) = _
          rw [Int.zero_add]
          exact atI_nat at1
        rw [bk_put N hi]
        have sx : SmX bA H5 (upd H5 bA (.dK (bkV nm (fun j => if j = i then v else vs j) (i + 1)))) := fun b o nb hb => by rw [upd_ne nb]; exact hb
        obtain ⟨o5, ho5⟩ := D4.o
        have mB : Mut (.dK (bkV nm vs i)) := .inr (.inr ⟨_, rfl⟩)
        refine ⟨_, fun j => if j = i then r else rw' j, fun j => if j = i then v else vs j, rfl, ?_, ?_, by rw [upd_ne nbl]; exact n5, upd_same, fun j hj => ?_⟩
        · obtain ⟨c0, x0, i0, a0, b0, f0, g1, g2, g3⟩ := D5
          exact ⟨c0, x0, i0, a0, b0, f0, sx _ _ (Ne.symm nbd) g1, sx _ _ (ne_of g2 b5 fun z => by cases z) g2, g3⟩
        · have T5 := tabs_smx T4 D4 s5.1
          intro p hp
          obtain ⟨ps, h1, h2, h3⟩ := T5 p hp
          refine ⟨ps, sx _ _ (ne_of h1 b5 fun z => by cases z) h1, h2, fun pos cv hc => ?_⟩
          obtain ⟨c, e1, e2⟩ := h3 pos cv hc
          exact ⟨c, e1, sx _ _ (ne_of e2 b5 fun z => by unfold LamX.CodeO at z; cases z) e2⟩
        · by_cases z : j = i
          · subst z
            simp only [if_true]
            exact ⟨dp_smx sx b5 mB (noL_encR _) hd, ok⟩
          · simp only [if_neg z]
            have := h4 j (by omega)
            exact ⟨dp_smx sx b5 mB (noL_encR _) (dp_smx s5.1 ho5 (.inl ⟨_, rfl⟩) (noL_encR _) this.1), this.2⟩
      · rintro σ H3 ⟨y3, rw', vs, rfl, D4, T4, n4, b4, h4⟩
        exact ⟨y3, rw', vs, rfl, ⟨D4, T4, n4, b4, fun i hi => (h4 i hi).1⟩, fun i hi => (h4 i hi).2⟩
    rintro σ H3 ⟨y3, rw', vs, rfl, S3, O⟩
    refine ⟨fun σ H' => ∃ (y3 y4 y5 y6 y7 y11 y12 : Option V), σ = [some (.ref a), some (.ref d), some (.ref nlA), y3, y4, y5, y6, y7, some (.ref bA), none, none, y11, y12] ∧ LS K [(PT_, lamN (.ref c))] d nlA bA nm rw' vs H', ?_, ?_⟩
    · have wk := walk_list (K := K) (a := nlA) (xs := nmV6 nm)
      rw [show (nmV6 nm).length = 6 by unfold nmV6; rw [List.length_map, List.length_range]] at wk
      refine ⟨_, rfl, nlA, rfl, ⟨_, SqL.of S3.N⟩, for_it wk (fun i σ H' => ∃ (y3 y4 y5 y6 y7 y11 y12 : Option V), σ = [some (.ref a), some (.ref d), some (.ref nlA), y3, y4, y5, y6, y7, some (.ref bA), none, none, y11, y12] ∧ LS K [(PT_, lamN (.ref c))] d nlA bA nm rw' vs H') ⟨_, _, _, _, _, _, _, rfl, S3⟩ (fun i σ' H' _ h => by
          obtain ⟨_, _, _, _, _, _, _, _, S⟩ := h
          exact SqL.of S.N) ?_ ?_⟩
      · rintro i v σ H4 H5 hi ⟨y3, y4, y5, y6, y7, y11, y12, rfl, S⟩ ⟨rfl, hx⟩
        have ev : v = .str (tx (nm i)) := by
          unfold nmV6 at hx
          rw [List.getElem?_map, List.getElem?_range hi] at hx
          exact (Option.some.inj hx).symm
        subst ev
        have gB : DGet H5 bA (.str (tx (nm i))) (some (vs i)) := by
          have := DGet.k (k := kN (nm i)) S.B
          rw [bk_val N 6 (Nat.le_refl _) i hi, if_pos hi] at this
          exact this
        have md := bk_md N O
        have inn := bk_in N O
        have mdi : mdR (dnOf nm) (rw' i) ≤ 2 * i + 3 := ((O i hi).m _ _ (dn_ok (rw' := rw') N (by omega))).1
        have ini := inn _ _ (bk_at N hi)
        refine ⟨_, rfl, _, rfl, bA, vs i, rfl, gB, ?_⟩
        refine ⟨_, rfl, fun kn nkn => ⟨_, rfl, ?_⟩⟩
        have Sk := S.same (same_upd nkn (o := .dK []))
        refine ⟨bA, kn, vs i, rw' i, bkOf nm rw', dnOf nm, bkV nm vs 6, rfl, Sk.tr i hi, (O i hi).w, Sk.bkl N O, md, inn, by omega, ini, ne_of_none S.B nkn, ⟨[], upd_same, List.nodup_nil, nofun, fun n v h => by cases h⟩, fun H6 s6 K6 => ?_⟩
        have s56 : Same H5 H6 := fun b o hb => s6 b o (ne_of_none hb nkn) (same_upd nkn b o hb)
        have S6 := S.same s56
        clear gB Sk
        generalize hdue : evR opsN (envOf opsN (bkOf nm rw') (dnOf nm)) (rw' i) 0 = due
        refine ⟨fun σ H' => ∃ tv : V, σ = [some (.ref a), some (.ref d), some (.ref nlA), y3, some (.str (tx (nm i))), some (oV due), some tv, y7, some (.ref bA), none, none, y11, some (vs i)] ∧ LS K [(PT_, lamN (.ref c))] d nlA bA nm rw' vs H' ∧ TldN H' tv due, ?_, ?_⟩
        · refine ⟨S6.T, fun f H7 x7 t7 => ⟨rfl, ?_⟩⟩
          have S7 := S6.ext x7 t7
          refine ⟨_, rfl, _, rfl, rfl, rfl, vs i, .ref bA, rw' i, bkOf nm rw', dnOf nm, rfl, S7.tr i hi, (O i hi).w, (O i hi).d, (O i hi).z, S7.bki N O, md, inn, by omega, ini, ?_⟩
          rw [hdue]
          cases due with
          | none =>
            refine fun H' dd s' nd' e' => ech_t EE X.hf (fun G' p s3' np => ?_) H' dd s' e'
            exact ⟨.ref p, rfl, S7.same (sm_trans s3' (same_upd np)), p, rfl, upd_same⟩
          | some n => exact fun H8 s8 => ⟨_, rfl, .int (n : Nat), rfl, S7.same s8, rfl⟩
        rintro σ H7 ⟨tv, rfl, S7, tld⟩
        refine ⟨fun σ H' => ∃ y6 : Option V, σ = [some (.ref a), some (.ref d), some (.ref nlA), y3, some (.str (tx (nm i))), some (oV due), y6, y7, some (.ref bA), none, none, y11, some (vs i)] ∧ LS K [(PT_, lamN (.ref c))] d nlA bA nm rw' vs H', ?_, ?_⟩
        · refine ⟨_, rfl, _, rfl, _, rfl, ?_⟩
          cases due with
          | none =>
            obtain ⟨p, rfl, hp⟩ := tld
            rw [show decide (oV none = V.non) = true from decide_eq_true rfl]
            refine iteT ⟨_, _, rfl, rfl, ⟨by decide, by decide, by decide⟩, by show 2 ≤ sizeLine; decide, fun p2 np2 => ?_⟩
            refine ⟨.ref p, .ref p2, rfl, alk_tm (same_upd np2 _ _ hp) upd_same, fun H8 s8 => ⟨_, rfl, iteF ⟨_, rfl, S7.same (sm_trans (same_upd np2) s8)⟩⟩⟩
          | some n =>
            have tld : tv = .int (n : Nat) := tld
            subst tld
            rw [show decide (oV (some n) = V.non) = false from decide_eq_false nofun]
            exact iteF ⟨_, rfl, .int (n : Nat), .int (n : Nat), rfl, .int _, fun H8 s8 => ⟨_, rfl, iteF ⟨_, rfl, S7.same s8⟩⟩⟩
        rintro σ H8 ⟨y6', rfl, S8⟩
        refine ⟨fun σ H' => ∃ n : Nat, due = some n ∧ σ = [some (.ref a), some (.ref d), some (.ref nlA), y3, some (.str (tx (nm i))), some (.int (n : Nat)), y6', y7, some (.ref bA), none, none, y11, some (vs i)] ∧ LS K [(PT_, lamN (.ref c))] d nlA bA nm rw' vs H', ?_, ?_⟩
        · refine ⟨_, rfl, _, rfl, ?_⟩
          cases due with
          | some n =>
            rw [show decide (oV (some n) = V.non) = false from decide_eq_false nofun]
            exact iteF ⟨n, rfl, rfl, S8⟩
          | none =>
            rw [show decide (oV none = V.non) = true from decide_eq_true rfl]
            refine iteT ⟨S8.T, fun f H9 x9 t9 => ⟨rfl, ?_⟩⟩
            have S9 := S8.ext x9 t9
            refine ⟨_, rfl, _, rfl, rfl, rfl, vs i, .ref bA, rw' i, bkOf nm rw', dnOf nm, 3, rfl, by decide, S9.tr i hi, (O i hi).w, (O i hi).d, (O i hi).z, S9.bki N O, md, inn, by omega, ini, ?_⟩
            rw [hdue]
            refine fun H' dd s' nd' e' => ech_t EE X.hf (fun G' p s3' np => ?_) H' dd s' e'
            have SG := S9.same (sm_trans s3' (same_upd np (o := .tup [.str "toomany", .int (10 ^ 60)])))
            refine ⟨_, _, rfl, rfl, ⟨by decide, by decide, by decide⟩, by show 2 ≤ sizeLine; decide, fun p2 np2 => ?_⟩
            refine ⟨tmD (10 ^ 60), tmD (10 ^ 60), dp_tm (same_upd np2 _ _ upd_same), dp_tm upd_same, sh_tm _, sh_tm _, _, rfl, ?_⟩
            rw [ev_tm]
            exact iteF ⟨_, _, _, _, _, _, _, rfl, SG.same (same_upd np2)⟩
        rintro σ H9 ⟨n, rfl, rfl, S9⟩
        have evn := hdue
        refine ⟨fun σ H' => ∃ most : Nat, most ≤ 400 ∧ σ = [some (.ref a), some (.ref d), some (.ref nlA), y3, some (.str (tx (nm i))), some (.int (n : Nat)), y6', y7, some (.ref bA), none, none, some (.int (most : Nat)), some (vs i)] ∧ LS K [(PT_, lamN (.ref c))] d nlA bA nm rw' vs H', ?_, ?_⟩
        · refine ⟨_, rfl, _, rfl, d, 3, rfl, S9.D, by decide, by decide, fun H10 j s10 D10 j0 j1 => ⟨_, _, rfl, rfl, _, _, rfl, rfl, _, _, rfl, _, _, rfl, ?_⟩⟩
          have S10 := S9.smd nld s10 D10
          obtain ⟨mm, hm4, em⟩ := slot4 (x := if (if ((n : Nat) : Int) + j - 1 < 400 then ((n : Nat) : Int) + j - 1 else 400) > 0 then (if ((n : Nat) : Int) + j - 1 < 400 then ((n : Nat) : Int) + j - 1 else 400) else 0) (by split <;> omega) (by split <;> (try split) <;> omega)
          exact ⟨mm, hm4, congrArg (fun z : Int => ([some (.ref a), some (.ref d), some (.ref nlA), y3, some (.str (tx (nm i))), some (.int (n : Nat)), y6', y7, some (.ref bA), none, none, some (.int z), some (vs i)] : L2.St)) em, S10⟩
        rintro σ H10 ⟨most, m4, rfl, S10⟩
        refine ⟨fun σ H' => ∃ fv : V, σ = [some (.ref a), some (.ref d), some (.ref nlA), y3, some (.str (tx (nm i))), some (.int (n : Nat)), y6', some fv, some (.ref bA), none, none, some (.int (most : Nat)), some (vs i)] ∧ LS K [(PT_, lamN (.ref c))] d nlA bA nm rw' vs H' ∧ FndAt H' fv n most, ?_, ?_⟩
        · refine ⟨S10.T, fun f H11 x11 t11 => ⟨rfl, ?_⟩⟩
          have S11 := S10.ext x11 t11
          refine ⟨_, rfl, _, rfl, _, rfl, rfl, rfl, vs i, .ref bA, rw' i, bkOf nm rw', dnOf nm, most, rfl, m4, S11.tr i hi, (O i hi).w, (O i hi).d, (O i hi).z, S11.bki N O, md, inn, by omega, ini, ?_⟩
          rw [evn]
          show SpQ K CT H11 _ _ _ _ _ most n
          unfold SpQ
          by_cases big : most < n
          · rw [if_pos big]
            refine fun H' dd s' nd' e' => ech_t EE X.hf (fun G' p s3' np => ?_) H' dd s' e'
            exact ⟨.ref p, rfl, S11.same (sm_trans s3' (same_upd np)), .inl ⟨big, p, rfl, upd_same⟩⟩
          · rw [if_neg big]
            refine fun H12 p xs l s12 np hp _ hd hl => ⟨_, rfl, .ref p, rfl, S11.same s12, .inr ⟨big, p, xs, rfl, hp, ?_⟩⟩
            rw [dpa_len hd, encL_len, hl]
        rintro σ H11 ⟨fv, rfl, S11, fnd⟩
        refine ⟨_, rfl, _, rfl, _, _, rfl, rfl, _, rfl, ?_⟩
        rcases fnd with ⟨big, p, rfl, hp⟩ | ⟨big, p, xs, rfl, hp, hl⟩
        · rw [decide_eq_true (by omega)]
          refine iteT ⟨_, rfl, _, rfl, by show 2 ≤ sizeLine; decide, fun p2 np2 => ?_⟩
          refine ⟨tmD (most : Nat), tmD (most : Nat), dp_tm (same_upd np2 _ _ hp), dp_tm upd_same, sh_tm _, sh_tm _, _, rfl, ?_⟩
          rw [ev_tm]
          exact iteF ⟨_, _, _, _, _, _, _, rfl, S11.same (same_upd np2)⟩
        · rw [decide_eq_false (by omega)]
          refine iteF ⟨_, rfl, _, _, .type "list", .type "list", true, rfl, .ty _, .base (.lst hp), kit_ty (by decide +kernel), _, rfl, iteF ?_⟩
          refine ⟨_, rfl, p, xs, rfl, .inl (SqL.of hp), _, rfl, rfl, _, rfl, ?_⟩
          rw [hl]
          rw [show (!decide (V.int ((n : Nat) : Int) = V.int ((n : Nat) : Int))) = false by rw [decide_eq_true rfl]; rfl]
          exact iteF ⟨_, _, _, _, _, _, _, rfl, S11⟩
      · rintro σ H4 h
        exact h
    rintro σ H4 ⟨y3, y4, y5, y6, y7, y11, y12, rfl, S⟩
    have T4 := S.T
    clear S
    refine ⟨by show 2 ≤ sizeLine; decide, fun p1 np1 => ⟨by show 1 ≤ sizeLine; decide, fun p2 np2 => ?_⟩⟩
    have sa : Same H4 (upd (upd H4 p1 (.tup [.str "call", .str ""])) p2 (.lst [.ref p1])) := sm_trans (same_upd np1) (same_upd np2)
    have e12 : p1 ≠ p2 := ne_of_none upd_same np2
    have et : (upd (upd H4 p1 (.tup [.str "call", .str ""])) p2 (.lst [.ref p1])) p1 = some (.tup [.str "call", .str ""]) := by rw [upd_ne e12, upd_same]
    have el : (upd (upd H4 p1 (.tup [.str "call", .str ""])) p2 (.lst [.ref p1])) p2 = some (.lst [.ref p1]) := upd_same
    generalize upd (upd H4 p1 (.tup [.str "call", .str ""])) p2 (.lst [.ref p1]) = Ha at sa et el ⊢
    refine ⟨p2, 20, _, rfl, rfl, el, by decide, by decide, by show 1 * 20 ≤ sizeLine; decide, fun p3 np3 => ?_⟩
    have hc3 : DpAll K (upd Ha p3 (.lst (List.replicate 20 [V.ref p1]).flatten)) (List.replicate 20 [V.ref p1]).flatten (encL (List.replicate 20 (.call []))) := by
      have := dpa_rep (K := K) (H := upd Ha p3 (.lst (List.replicate 20 [V.ref p1]).flatten)) (vs := [V.ref p1]) (ds := [encS (.call [])]) (.cons (by
        rw [encS]
        exact .tup (SqT.of (same_upd np3 _ _ et)) (.cons (.str _) (.cons (.str _) .nil))) .nil) 20
      rw [List.flatten_replicate_singleton (a := encS (.call []))] at this
      rw [encL_map, List.map_replicate]
      exact this
    refine ⟨p3, _, _, rfl, SqL.of upd_same, hc3, fun H5 v5 s5 d5 => ?_⟩
    have s45 := sm_trans (sm_trans sa (same_upd np3)) s5
    refine ⟨by show 3 ≤ sizeLine; decide, fun p6 np6 => ⟨by show 1 ≤ sizeLine; decide, fun p7 np7 => ?_⟩⟩
    have e67 : p6 ≠ p7 := ne_of_none upd_same np7
    have s67 := sm_trans (same_upd np6 (o := .tup [.str "times", .int 20, v5])) (same_upd np7 (o := .lst [.ref p6]))
    refine ⟨p7, _, LG, rfl, SqL.of upd_same, ?_, fun H8 v8 s8 d8 => ?_⟩
    · unfold LG
      rw [encL, encL, encS]
      exact .cons (.tup (SqT.of (by rw [upd_ne e67, upd_same]; rfl)) (.cons (.str _) (.cons (.int _) (.cons (dp_same s67 d5) .nil)))) .nil
    have T8 := T4.ext (sm_trans (sm_trans s45 s67) s8)
    refine ⟨fun σ H' => σ = [some (.ref a), some (.ref d), some (.ref nlA), y3, y4, y5, y6, y7, some (.ref bA), some v8, none, y11, y12] ∧ LamX.Tabs [(PT_, lamN (.ref c))] H' ∧ Dp K H' v8 (encR LG), ?_, ?_⟩
    · refine ⟨T8, fun f H9 x9 t9 => ⟨rfl, ?_⟩⟩
      have d9 := dp_ext x9 (noL_encR _) d8
      refine ⟨_, rfl, v8, .non, LG, fun _ => none, fun _ => 0, 400, rfl, by decide, d9, by decide +kernel, by decide +kernel, by decide +kernel, .inl ⟨rfl, rfl⟩, nofun, nofun, by decide +kernel, lg_in _, ?_⟩
      rw [lg_ev]
      show SpQ K CT H9 _ _ _ _ _ 400 400
      unfold SpQ
      rw [if_neg (by omega)]
      refine fun H10 p xs l s10 np hp _ hd hl => ⟨_, rfl, p, xs, rfl, .inl (SqL.of hp), rfl, _, rfl, ?_⟩
      have xl : xs.length = 400 := by rw [dpa_len hd, encL_len, hl]
      rw [xl]
      rw [show (!decide (V.int ((400 : Nat) : Int) = V.int 400)) = false by rw [decide_eq_true (show V.int ((400 : Nat) : Int) = V.int 400 from rfl)]; rfl]
      exact iteF ⟨rfl, t9.ext s10, dp_same s10 d9⟩
    rintro σ H9 ⟨rfl, T9, d9⟩
    have d9' := d9
    unfold encR at d9'
    obtain ⟨pt, va, vb, rfl, hT9, ha, hb'⟩ := dp_two d9'
    cases hb' with
    | tup hq hall =>
      rename_i q2 es
      have el9 := dpa_len hall
      refine ⟨by show 2 ≤ sizeLine; decide, fun p1 np1 => ⟨by show 1 ≤ sizeLine; decide, fun p2 np2 => ?_⟩⟩
      have sb : Same H9 (upd (upd H9 p1 (.tup [.str "call", .str ""])) p2 (.lst [.ref p1])) := sm_trans (same_upd np1) (same_upd np2)
      have f12 : p1 ≠ p2 := ne_of_none upd_same np2
      have ft : (upd (upd H9 p1 (.tup [.str "call", .str ""])) p2 (.lst [.ref p1])) p1 = some (.tup [.str "call", .str ""]) := by rw [upd_ne f12, upd_same]
      have fl : (upd (upd H9 p1 (.tup [.str "call", .str ""])) p2 (.lst [.ref p1])) p2 = some (.lst [.ref p1]) := upd_same
      generalize upd (upd H9 p1 (.tup [.str "call", .str ""])) p2 (.lst [.ref p1]) = Hb at sb ft fl ⊢
      refine ⟨_, rfl, pt, _, 1, _, rfl, rfl, sm_t sb hT9, rfl, q2, es, rfl, .inr (sm_t sb hq), fun lq nlq => ?_⟩
      have npq : p2 ≠ lq := ne_of_none fl nlq
      refine ⟨p2, lq, _, es, rfl, rfl, by rw [upd_ne npq]; exact fl, upd_same, by rw [el9, encL_len, sizeLine_eq]; show 1 + 1 ≤ _; omega, fun p3 np3 => ?_⟩
      have sc := sm_trans (same_upd nlq (o := .lst es)) (same_upd np3 (o := .lst ([.ref p1] ++ es)))
      refine ⟨p3, _, MR, rfl, SqL.of upd_same, ?_, fun H10 v10 s10 d10 => ?_⟩
      · unfold MR
        rw [encL, encS]
        exact .cons (.tup (SqT.of (sc _ _ ft)) (.cons (.str _) (.cons (.str _) .nil))) (dpa_same (sm_trans sb sc) hall)
      have T10 := T9.ext (sm_trans (sm_trans sb sc) s10)
      refine ⟨T10, fun f H11 x11 t11 => ⟨rfl, ?_⟩⟩
      refine ⟨_, rfl, v10, .non, MR, fun _ => none, fun _ => 0, 400, rfl, by decide, dp_ext x11 (noL_encR _) d10, by decide +kernel, by decide +kernel, by decide +kernel, .inl ⟨rfl, rfl⟩, nofun, nofun, by decide +kernel, mr_in _, ?_⟩
      rw [mr_ev]
      show SpQ K CT H11 _ _ _ _ _ 400 401
      unfold SpQ
      rw [if_pos (by omega)]
      refine fun H' dd s' nd' e' => ech_t EE X.hf (fun G' p s3' np => ?_) H' dd s' e'
      refine ⟨by show 2 ≤ sizeLine; decide, fun p5 np5 => ?_⟩
      refine ⟨tmD 400, tmD 400, dp_tm (same_upd np5 _ _ upd_same), dp_tm upd_same, sh_tm _, sh_tm _, ?_⟩
      rw [ev_tm]
      refine ⟨_, rfl, iteT ⟨_, _, rfl, rfl, ⟨by decide, by decide, by decide⟩, rfl, _, rfl, ?_⟩⟩
      rw [show decide (V.int (10 ^ 60) = V.int ((10 : Int) ^ (60 : Int).toNat)) = true from decide_eq_true rfl]
      refine iteT ⟨rfl, ?_⟩
      rw [show decide (V.int 400 = V.int 400) = true from decide_eq_true rfl]
      exact q _
end
end NC
namespace NC
open PySem PySem.Spec PyProof.Rows L2
theorem exm_of {K : PySem.W.Frag} {R S : Addr} {b : Bool} (h1 : PySem.W.subIn K (.ref S) (.type "BaseException") = some true) (h2 : PySem.W.isClsIn K S = true) (h3 : PySem.W.typeIn K (.ref S) = some (.type "type")) (h4 : PySem.W.subIn K (.ref R) (.ref S) = some b) :
    PySem.W.exmOne K (.ref R) (.ref S) = some b := by
  have e1 : (PySem.W.subIn K (.ref S) (.type "BaseException") == some true) = true := by rw [h1] <;> rfl
  have e2 : ((PySem.W.clsIn K S).isSome && PySem.W.typeIn K (.ref S) == some (.type "type")) = true := by
    have h2' : (PySem.W.clsIn K S).isSome = true := h2
    rw [h2', h3] <;> rfl
  show (if (PySem.W.subIn K (.ref S) (.type "BaseException") == some true) = true then (if ((PySem.W.clsIn K S).isSome && PySem.W.typeIn K (.ref S) == some (.type "type")) = true then PySem.W.subIn K (.ref R) (.ref S) else none) else none) = some b
  rw [if_pos e1, if_pos e2]
  exact h4
theorem kw_1 {K : PySem.W.Frag} {fd : FuncData} (h : ∀ a d : Value, bindArgs fd ⟨[a], [("book", d)]⟩ = (pure ((["tree", "book"] : List Str).zip [a, d]) : Sem (List (Str × Value)))) : KBn K fd ["tree", "book"] 1 ["book"] (gAp (α := Value)) gAp where
  to := fun s us ws _ l1 l2 => match us, ws, l1, l2 with
    | [a], [d], _, _ => .of_eq (h a d)
  rel := fun r1 r2 => Vals.append r1 r2
theorem kw_2 {K : PySem.W.Frag} {fd : FuncData} (h : ∀ a d e : Value, bindArgs fd ⟨[a], [("book", d), ("most", e)]⟩ = (pure ((["tree", "book", "most"] : List Str).zip [a, d, e]) : Sem (List (Str × Value)))) : KBn K fd ["tree", "book", "most"] 1 ["book", "most"] (gAp (α := Value)) gAp where
  to := fun s us ws _ l1 l2 => match us, ws, l1, l2 with
    | [a], [d, e], _, _ => .of_eq (h a d e)
  rel := fun r1 r2 => Vals.append r1 r2
set_option maxHeartbeats 4000000 in
theorem all_mk {l : PySem.W.OpenLaw} {w : World} {K : PySem.W.Frag} {h : Heap} {mg : Str → Option Value} {fa : Addr} {PT : Addr} (X : K.In h) (G : h.Ns mainGlobals mg) (hfa : mg "law" = some (.ref fa)) (hPT : h.get? PT = some { cls := .none, data := .fields #[] }) (nPT : K.lookup PT = none)
    {f_w : Addr} {oc_w kV_w dc_w pm_w cd_w ct_w : Value} {od_w an_w : Option Addr} {sl_w : Array (Option Value)}
    {f_n : Addr} {oc_n kV_n dc_n pm_n cd_n ct_n : Value} {od_n an_n : Option Addr} {sl_n : Array (Option Value)}
    {f_nu : Addr} {oc_nu kV_nu dc_nu pm_nu cd_nu ct_nu : Value} {od_nu an_nu : Option Addr} {sl_nu : Array (Option Value)}
    {f_tu : Addr} {oc_tu kV_tu dc_tu pm_tu cd_tu ct_tu : Value} {od_tu an_tu : Option Addr} {sl_tu : Array (Option Value)}
    {f_pl : Addr} {oc_pl kV_pl dc_pl pm_pl cd_pl ct_pl : Value} {od_pl an_pl : Option Addr} {sl_pl : Array (Option Value)}
    {f_gh : Addr} {oc_gh kV_gh dc_gh pm_gh cd_gh ct_gh : Value} {od_gh an_gh : Option Addr} {sl_gh : Array (Option Value)}
    {f_ls : Addr} {oc_ls kV_ls dc_ls pm_ls cd_ls ct_ls : Value} {od_ls an_ls : Option Addr} {sl_ls : Array (Option Value)}
    {f_lb : Addr} {oc_lb kV_lb dc_lb pm_lb cd_lb ct_lb : Value} {od_lb an_lb : Option Addr} {sl_lb : Array (Option Value)}
    {f_ir : Addr} {oc_ir kV_ir dc_ir pm_ir cd_ir ct_ir : Value} {od_ir an_ir : Option Addr} {sl_ir : Array (Option Value)}
    {f_of : Addr} {oc_of kV_of dc_of pm_of cd_of ct_of : Value} {od_of an_of : Option Addr} {sl_of : Array (Option Value)}
    {f_draw : Addr} {oc_draw kV_draw dc_draw pm_draw cd_draw ct_draw : Value} {od_draw an_draw : Option Addr} {sl_draw : Array (Option Value)}
    {f_letters : Addr} {oc_letters kV_letters dc_letters pm_letters cd_letters ct_letters : Value} {od_letters an_letters : Option Addr} {sl_letters : Array (Option Value)}
    {f_number : Addr} {oc_number kV_number dc_number pm_number cd_number ct_number : Value} {od_number an_number : Option Addr} {sl_number : Array (Option Value)}
    {f_names : Addr} {oc_names kV_names dc_names pm_names cd_names ct_names : Value} {od_names an_names : Option Addr} {sl_names : Array (Option Value)}
    {f_flat : Addr} {oc_flat kV_flat dc_flat pm_flat cd_flat ct_flat : Value} {od_flat an_flat : Option Addr} {sl_flat : Array (Option Value)}
    {f_count : Addr} {oc_count kV_count dc_count pm_count cd_count ct_count : Value} {od_count an_count : Option Addr} {sl_count : Array (Option Value)}
    {f_tower : Addr} {oc_tower kV_tower dc_tower pm_tower cd_tower ct_tower : Value} {od_tower an_tower : Option Addr} {sl_tower : Array (Option Value)}
    {f_cr : Addr} {oc_cr kV_cr dc_cr pm_cr cd_cr ct_cr : Value} {od_cr an_cr : Option Addr} {sl_cr : Array (Option Value)}
    {f_ma : Addr} {oc_ma kV_ma dc_ma pm_ma cd_ma ct_ma : Value} {od_ma an_ma : Option Addr} {sl_ma : Array (Option Value)}
    {f_my : Addr} {oc_my dc_my pm_my cd_my ct_my : Value} {od_my an_my : Option Addr} {sl_my : Array (Option Value)}
    {f_sp : Addr} {oc_sp dc_sp pm_sp cd_sp ct_sp : Value} {od_sp an_sp : Option Addr} {sl_sp : Array (Option Value)}
    {f_same : Addr} {oc_same kV_same dc_same pm_same cd_same ct_same : Value} {od_same an_same : Option Addr} {sl_same : Array (Option Value)}
    {f_start : Addr} {oc_start kV_start dc_start pm_start cd_start ct_start : Value} {od_start an_start : Option Addr} {sl_start : Array (Option Value)}
    {f_told : Addr} {oc_told kV_told dc_told pm_told cd_told ct_told : Value} {od_told an_told : Option Addr} {sl_told : Array (Option Value)}
    {CH : Addr}
    {CT : Addr}
    {nm_CT q_CT : Str} {N_CT : Addr} {bs_CT bm_CT sub_CT : List Value} {sn_CT : List Str} {ab_CT : Bool} {col_CT : Option Bool} {dd_CT : Option Addr} {m0_CT m1_CT m2_CT m3_CT m5_CT : Option Value}
    {f_iH : Addr} {oc_iH kV_iH dc_iH pm_iH cd_iH ct_iH : Value} {od_iH an_iH : Option Addr} {sl_iH : Array (Option Value)}
    {f_iT : Addr} {oc_iT kV_iT dc_iT pm_iT cd_iT ct_iT : Value} {od_iT an_iT : Option Addr} {sl_iT : Array (Option Value)}
    {CC : Addr}
    {f_cno : Addr} {oc_cno kV_cno dc_cno pm_cno cd_cno ct_cno : Value} {od_cno an_cno : Option Addr} {sl_cno : Array (Option Value)}
    {f_cof : Addr} {oc_cof kV_cof dc_cof pm_cof cd_cof ct_cof : Value} {od_cof an_cof : Option Addr} {sl_cof : Array (Option Value)}
    {f_cjn : Addr} {oc_cjn kV_cjn dc_cjn pm_cjn cd_cjn ct_cjn : Value} {od_cjn an_cjn : Option Addr} {sl_cjn : Array (Option Value)}
    {f_crp : Addr} {oc_crp kV_crp dc_crp pm_crp cd_crp ct_crp : Value} {od_crp an_crp : Option Addr} {sl_crp : Array (Option Value)}
    {LC : Addr}
    {f_lno : Addr} {oc_lno kV_lno dc_lno pm_lno cd_lno ct_lno : Value} {od_lno an_lno : Option Addr} {sl_lno : Array (Option Value)}
    {f_lof : Addr} {oc_lof kV_lof dc_lof pm_lof cd_lof ct_lof : Value} {od_lof an_lof : Option Addr} {sl_lof : Array (Option Value)}
    {f_ljn : Addr} {oc_ljn kV_ljn dc_ljn pm_ljn cd_ljn ct_ljn : Value} {od_ljn an_ljn : Option Addr} {sl_ljn : Array (Option Value)}
    {f_lrp : Addr} {oc_lrp kV_lrp dc_lrp pm_lrp cd_lrp ct_lrp : Value} {od_lrp an_lrp : Option Addr} {sl_lrp : Array (Option Value)}
    {f_lin : Addr} {oc_lin kV_lin dc_lin pm_lin cd_lin ct_lin : Value} {od_lin an_lin : Option Addr} {sl_lin : Array (Option Value)}
    {SC : Addr}
    {f_sSi : Addr} {oc_sSi kV_sSi dc_sSi pm_sSi cd_sSi ct_sSi : Value} {od_sSi an_sSi : Option Addr} {sl_sSi : Array (Option Value)}
    {RC : Addr}
    {f_rbe : Addr} {oc_rbe kV_rbe dc_rbe pm_rbe cd_rbe ct_rbe : Value} {od_rbe an_rbe : Option Addr} {sl_rbe : Array (Option Value)}
    {f_rad : Addr} {oc_rad kV_rad dc_rad pm_rad cd_rad ct_rad : Value} {od_rad an_rad : Option Addr} {sl_rad : Array (Option Value)}
    {f_rdo : Addr} {oc_rdo kV_rdo dc_rdo pm_rdo cd_rdo ct_rdo : Value} {od_rdo an_rdo : Option Addr} {sl_rdo : Array (Option Value)}
    {f_rst : Addr} {oc_rst kV_rst dc_rst pm_rst cd_rst ct_rst : Value} {od_rst an_rst : Option Addr} {sl_rst : Array (Option Value)}
    {f_rfi : Addr} {oc_rfi kV_rfi dc_rfi pm_rfi cd_rfi ct_rfi : Value} {od_rfi an_rfi : Option Addr} {sl_rfi : Array (Option Value)}
    {f_rwo : Addr} {oc_rwo kV_rwo dc_rwo pm_rwo cd_rwo ct_rwo : Value} {od_rwo an_rwo : Option Addr} {sl_rwo : Array (Option Value)}
    {f_rRi : Addr} {oc_rRi kV_rRi dc_rRi pm_rRi cd_rRi ct_rRi : Value} {od_rRi an_rRi : Option Addr} {sl_rRi : Array (Option Value)}
    {Kd_my Kd_sp : Addr} {t_sp : Tok}
    {t1 : Tok}
    {t2 : Tok}
    {t4 : Tok}
    {t5 : Tok}
    {t6 : Tok}
    {t7 : Tok}
    {t8 : Tok}
    {t9 : Tok}
    {t10 : Tok}
    {c : Addr} {fL : Addr} {ocL kVL dcL pmL ctL : Value} {odL anL : Option Addr} {slL : Array (Option Value)}
    (a_w : PySem.W.nsIn K mainGlobals "is_word" = some (some (.ref f_w)))
    (l_w : K.lookup f_w = some ⟨oc_w, od_w, .func (PySem.W.fnOf "is_word" "is_word" (defArgs sIsWord) (defBody sIsWord) (defScope sIsWord) .none kV_w dc_w pm_w an_w cd_w ct_w), sl_w⟩)
    (c_w : PySem.W.codeIn K cd_w "is_word" = true)
    (k_w : PySem.W.keepIn K (.ref f_w) = true)
    (a_n : PySem.W.nsIn K mainGlobals "is_name" = some (some (.ref f_n)))
    (l_n : K.lookup f_n = some ⟨oc_n, od_n, .func (PySem.W.fnOf "is_name" "is_name" (defArgs sIsName) (defBody sIsName) (defScope sIsName) .none kV_n dc_n pm_n an_n cd_n ct_n), sl_n⟩)
    (c_n : PySem.W.codeIn K cd_n "is_name" = true)
    (k_n : PySem.W.keepIn K (.ref f_n) = true)
    (a_nu : PySem.W.nsIn K mainGlobals "is_number" = some (some (.ref f_nu)))
    (l_nu : K.lookup f_nu = some ⟨oc_nu, od_nu, .func (PySem.W.fnOf "is_number" "is_number" (defArgs sIsNum) (defBody sIsNum) (defScope sIsNum) .none kV_nu dc_nu pm_nu an_nu cd_nu ct_nu), sl_nu⟩)
    (c_nu : PySem.W.codeIn K cd_nu "is_number" = true)
    (k_nu : PySem.W.keepIn K (.ref f_nu) = true)
    (a_tu : PySem.W.nsIn K mainGlobals "is_tuple_of" = some (some (.ref f_tu)))
    (l_tu : K.lookup f_tu = some ⟨oc_tu, od_tu, .func (PySem.W.fnOf "is_tuple_of" "is_tuple_of" (defArgs sIsTup) (defBody sIsTup) (defScope sIsTup) .none kV_tu dc_tu pm_tu an_tu cd_tu ct_tu), sl_tu⟩)
    (c_tu : PySem.W.codeIn K cd_tu "is_tuple_of" = true)
    (k_tu : PySem.W.keepIn K (.ref f_tu) = true)
    (a_pl : PySem.W.nsIn K mainGlobals "is_plain_step" = some (some (.ref f_pl)))
    (l_pl : K.lookup f_pl = some ⟨oc_pl, od_pl, .func (PySem.W.fnOf "is_plain_step" "is_plain_step" (defArgs sIsPlain) (defBody sIsPlain) (defScope sIsPlain) .none kV_pl dc_pl pm_pl an_pl cd_pl ct_pl), sl_pl⟩)
    (c_pl : PySem.W.codeIn K cd_pl "is_plain_step" = true)
    (k_pl : PySem.W.keepIn K (.ref f_pl) = true)
    (a_gh : PySem.W.nsIn K mainGlobals "is_group_head" = some (some (.ref f_gh)))
    (l_gh : K.lookup f_gh = some ⟨oc_gh, od_gh, .func (PySem.W.fnOf "is_group_head" "is_group_head" (defArgs sIsHead) (defBody sIsHead) (defScope sIsHead) .none kV_gh dc_gh pm_gh an_gh cd_gh ct_gh), sl_gh⟩)
    (c_gh : PySem.W.codeIn K cd_gh "is_group_head" = true)
    (k_gh : PySem.W.keepIn K (.ref f_gh) = true)
    (a_ls : PySem.W.nsIn K mainGlobals "left_behind_step" = some (some (.ref f_ls)))
    (l_ls : K.lookup f_ls = some ⟨oc_ls, od_ls, .func (PySem.W.fnOf "left_behind_step" "left_behind_step" (defArgs sLbS) (defBody sLbS) (defScope sLbS) .none kV_ls dc_ls pm_ls an_ls cd_ls ct_ls), sl_ls⟩)
    (c_ls : PySem.W.codeIn K cd_ls "left_behind_step" = true)
    (k_ls : PySem.W.keepIn K (.ref f_ls) = true)
    (a_lb : PySem.W.nsIn K mainGlobals "left_behind" = some (some (.ref f_lb)))
    (l_lb : K.lookup f_lb = some ⟨oc_lb, od_lb, .func (PySem.W.fnOf "left_behind" "left_behind" (defArgs sLb) (defBody sLb) (defScope sLb) .none kV_lb dc_lb pm_lb an_lb cd_lb ct_lb), sl_lb⟩)
    (c_lb : PySem.W.codeIn K cd_lb "left_behind" = true)
    (k_lb : PySem.W.keepIn K (.ref f_lb) = true)
    (a_ir : PySem.W.nsIn K mainGlobals "is_row" = some (some (.ref f_ir)))
    (l_ir : K.lookup f_ir = some ⟨oc_ir, od_ir, .func (PySem.W.fnOf "is_row" "is_row" (defArgs sIsRow) (defBody sIsRow) (defScope sIsRow) .none kV_ir dc_ir pm_ir an_ir cd_ir ct_ir), sl_ir⟩)
    (c_ir : PySem.W.codeIn K cd_ir "is_row" = true)
    (k_ir : PySem.W.keepIn K (.ref f_ir) = true)
    (a_of : PySem.W.nsIn K mainGlobals "_law_of" = some (some (.ref f_of)))
    (l_of : K.lookup f_of = some ⟨oc_of, od_of, .func (PySem.W.fnOf "_law_of" "_law_of" (defArgs sOf) (defBody sOf) (defScope sOf) .none kV_of dc_of pm_of an_of cd_of ct_of), sl_of⟩)
    (c_of : PySem.W.codeIn K cd_of "_law_of" = true)
    (k_of : PySem.W.keepIn K (.ref f_of) = true)
    (a_draw : PySem.W.nsIn K mainGlobals "_law_draw" = some (some (.ref f_draw)))
    (l_draw : K.lookup f_draw = some ⟨oc_draw, od_draw, .func (PySem.W.fnOf "_law_draw" "_law_draw" (defArgs sDraw) (defBody sDraw) (defScope sDraw) .none kV_draw dc_draw pm_draw an_draw cd_draw ct_draw), sl_draw⟩)
    (c_draw : PySem.W.codeIn K cd_draw "_law_draw" = true)
    (k_draw : PySem.W.keepIn K (.ref f_draw) = true)
    (a_letters : PySem.W.nsIn K mainGlobals "_law_letters" = some (some (.ref f_letters)))
    (l_letters : K.lookup f_letters = some ⟨oc_letters, od_letters, .func (PySem.W.fnOf "_law_letters" "_law_letters" (defArgs sLetters) (defBody sLetters) (defScope sLetters) .none kV_letters dc_letters pm_letters an_letters cd_letters ct_letters), sl_letters⟩)
    (c_letters : PySem.W.codeIn K cd_letters "_law_letters" = true)
    (k_letters : PySem.W.keepIn K (.ref f_letters) = true)
    (a_number : PySem.W.nsIn K mainGlobals "_law_number" = some (some (.ref f_number)))
    (l_number : K.lookup f_number = some ⟨oc_number, od_number, .func (PySem.W.fnOf "_law_number" "_law_number" (defArgs sNumber) (defBody sNumber) (defScope sNumber) .none kV_number dc_number pm_number an_number cd_number ct_number), sl_number⟩)
    (c_number : PySem.W.codeIn K cd_number "_law_number" = true)
    (k_number : PySem.W.keepIn K (.ref f_number) = true)
    (a_names : PySem.W.nsIn K mainGlobals "_law_names" = some (some (.ref f_names)))
    (l_names : K.lookup f_names = some ⟨oc_names, od_names, .func (PySem.W.fnOf "_law_names" "_law_names" (defArgs sNames) (defBody sNames) (defScope sNames) .none kV_names dc_names pm_names an_names cd_names ct_names), sl_names⟩)
    (c_names : PySem.W.codeIn K cd_names "_law_names" = true)
    (k_names : PySem.W.keepIn K (.ref f_names) = true)
    (a_flat : PySem.W.nsIn K mainGlobals "_law_flat_tree" = some (some (.ref f_flat)))
    (l_flat : K.lookup f_flat = some ⟨oc_flat, od_flat, .func (PySem.W.fnOf "_law_flat_tree" "_law_flat_tree" (defArgs sFlat) (defBody sFlat) (defScope sFlat) .none kV_flat dc_flat pm_flat an_flat cd_flat ct_flat), sl_flat⟩)
    (c_flat : PySem.W.codeIn K cd_flat "_law_flat_tree" = true)
    (k_flat : PySem.W.keepIn K (.ref f_flat) = true)
    (a_count : PySem.W.nsIn K mainGlobals "_law_count" = some (some (.ref f_count)))
    (l_count : K.lookup f_count = some ⟨oc_count, od_count, .func (PySem.W.fnOf "_law_count" "_law_count" (defArgs sCount) (defBody sCount) (defScope sCount) .none kV_count dc_count pm_count an_count cd_count ct_count), sl_count⟩)
    (c_count : PySem.W.codeIn K cd_count "_law_count" = true)
    (k_count : PySem.W.keepIn K (.ref f_count) = true)
    (a_tower : PySem.W.nsIn K mainGlobals "_law_tower" = some (some (.ref f_tower)))
    (l_tower : K.lookup f_tower = some ⟨oc_tower, od_tower, .func (PySem.W.fnOf "_law_tower" "_law_tower" (defArgs sTower) (defBody sTower) (defScope sTower) .none kV_tower dc_tower pm_tower an_tower cd_tower ct_tower), sl_tower⟩)
    (c_tower : PySem.W.codeIn K cd_tower "_law_tower" = true)
    (k_tower : PySem.W.keepIn K (.ref f_tower) = true)
    (a_cr : PySem.W.nsIn K mainGlobals "check_row" = some (some (.ref f_cr)))
    (l_cr : K.lookup f_cr = some ⟨oc_cr, od_cr, .func (PySem.W.fnOf "check_row" "check_row" (defArgs sChkRow) (defBody sChkRow) (defScope sChkRow) .none kV_cr dc_cr pm_cr an_cr cd_cr ct_cr), sl_cr⟩)
    (c_cr : PySem.W.codeIn K cd_cr "check_row" = true)
    (k_cr : PySem.W.keepIn K (.ref f_cr) = true)
    (a_ma : PySem.W.nsIn K mainGlobals "made_of" = some (some (.ref f_ma)))
    (l_ma : K.lookup f_ma = some ⟨oc_ma, od_ma, .func (PySem.W.fnOf "made_of" "made_of" (defArgs sMadeOf) (defBody sMadeOf) (defScope sMadeOf) .none kV_ma dc_ma pm_ma an_ma cd_ma ct_ma), sl_ma⟩)
    (c_ma : PySem.W.codeIn K cd_ma "made_of" = true)
    (k_ma : PySem.W.keepIn K (.ref f_ma) = true)
    (a_my : PySem.W.nsIn K mainGlobals "many_done" = some (some (.ref f_my)))
    (l_my : K.lookup f_my = some ⟨oc_my, od_my, .func (PySem.W.fnOf "many_done" "many_done" (defArgs sMany) (defBody sMany) (defScope sMany) .none (.ref Kd_my) dc_my pm_my an_my cd_my ct_my), sl_my⟩)
    (c_my : PySem.W.codeIn K cd_my "many_done" = true)
    (k_my : PySem.W.keepIn K (.ref f_my) = true)
    (a_sp : PySem.W.nsIn K mainGlobals "spelled" = some (some (.ref f_sp)))
    (l_sp : K.lookup f_sp = some ⟨oc_sp, od_sp, .func (PySem.W.fnOf "spelled" "spelled" (defArgs sSpelled) (defBody sSpelled) (defScope sSpelled) .none (.ref Kd_sp) dc_sp pm_sp an_sp cd_sp ct_sp), sl_sp⟩)
    (c_sp : PySem.W.codeIn K cd_sp "spelled" = true)
    (k_sp : PySem.W.keepIn K (.ref f_sp) = true)
    (a_same : PySem.W.nsIn K mainGlobals "_law_same" = some (some (.ref f_same)))
    (l_same : K.lookup f_same = some ⟨oc_same, od_same, .func (PySem.W.fnOf "_law_same" "_law_same" (defArgs sSame) (defBody sSame) (defScope sSame) .none kV_same dc_same pm_same an_same cd_same ct_same), sl_same⟩)
    (c_same : PySem.W.codeIn K cd_same "_law_same" = true)
    (k_same : PySem.W.keepIn K (.ref f_same) = true)
    (a_start : PySem.W.nsIn K mainGlobals "_law_start" = some (some (.ref f_start)))
    (l_start : K.lookup f_start = some ⟨oc_start, od_start, .func (PySem.W.fnOf "_law_start" "_law_start" (defArgs sStart) (defBody sStart) (defScope sStart) .none kV_start dc_start pm_start an_start cd_start ct_start), sl_start⟩)
    (c_start : PySem.W.codeIn K cd_start "_law_start" = true)
    (k_start : PySem.W.keepIn K (.ref f_start) = true)
    (a_told : PySem.W.nsIn K mainGlobals "_law_told" = some (some (.ref f_told)))
    (l_told : K.lookup f_told = some ⟨oc_told, od_told, .func (PySem.W.fnOf "_law_told" "_law_told" (defArgs sTold) (defBody sTold) (defScope sTold) .none kV_told dc_told pm_told an_told cd_told ct_told), sl_told⟩)
    (c_told : PySem.W.codeIn K cd_told "_law_told" = true)
    (k_told : PySem.W.keepIn K (.ref f_told) = true)
    (a_CH : PySem.W.nsIn K mainGlobals "HallError" = some (some (.ref CH)))
    (a_CT : PySem.W.nsIn K mainGlobals "TooMany" = some (some (.ref CT)))
    (i_H : PySem.W.findCls K (.ref CH) (.type "type") "__init__" = some (.val (.ref f_iH)))
    (r_H : PySem.W.readsIn K CH (.type "type") = true)
    (g_H : PySem.W.specialIn K (.ref CH) "__getattribute__" = some (some (.builtin "type.__getattribute__")))
    (v_V : PySem.W.findCls K (.type "ValueError") (.type "type") "__init__" = some (.val (.builtin "ValueError.__init__")))
    (x_CT : K.lookup CT = some (excClassObj nm_CT q_CT CT N_CT bs_CT bm_CT true sn_CT sub_CT ab_CT col_CT dd_CT m0_CT m1_CT m2_CT m3_CT m5_CT "ValueError.__new__"))
    (rv_CT : PySem.HandSPX.refsVE bm_CT = true)
    (sa_CT : PySem.W.findIn K (.ref CT) "__setattr__" = some (some (.builtin "object.__setattr__")))
    (ga_CT : PySem.W.findIn K (.ref CT) "__getattribute__" = some (some (.builtin "BaseException.__getattribute__")))
    (gg_CT : PySem.W.findIn K (.ref CT) "__getattr__" = some none)
    (hd_CT : PySem.W.hasDictIn K CT = true)
    (ex_CT : PySem.W.subIn K (.ref CT) (.type "BaseException") = some true)
    (ty_CT : PySem.W.typeIn K (.ref CT) = some (.type "type"))
    (kc_CT : PySem.W.keepIn K (.ref CT) = true)
    (i_CT : PySem.W.findIn K (.ref CT) "__init__" = some (some (.ref f_iT)))
    (t_CT : PySem.W.typeIn K (.ref f_iT) = some (.type "function"))
    (n_CT_word : PySem.W.findIn K (.ref CT) "word" = some none)
    (n_CT_most : PySem.W.findIn K (.ref CT) "most" = some none)
    (l_iH : K.lookup f_iH = some ⟨oc_iH, od_iH, .func (PySem.W.fnOf "__init__" "HallError.__init__" (defArgs sHEinit) (defBody sHEinit) (defScope sHEinit) .none kV_iH dc_iH pm_iH an_iH cd_iH ct_iH), sl_iH⟩)
    (c_iH : PySem.W.codeIn K cd_iH "HallError.__init__" = true)
    (k_iH : PySem.W.keepIn K (.ref f_iH) = true)
    (l_iT : K.lookup f_iT = some ⟨oc_iT, od_iT, .func (PySem.W.fnOf "__init__" "TooMany.__init__" (defArgs sTMinit) (defBody sTMinit) (defScope sTMinit) .none kV_iT dc_iT pm_iT an_iT cd_iT ct_iT), sl_iT⟩)
    (c_iT : PySem.W.codeIn K cd_iT "TooMany.__init__" = true)
    (k_iT : PySem.W.keepIn K (.ref f_iT) = true)
    (e_CT_CT : PySem.W.subIn K (.ref CT) (.ref CT) = some true)
    (ic_CT : PySem.W.isClsIn K CT = true)
    (a_CC : PySem.W.nsIn K mainGlobals "CountMaker" = some (some (.ref CC)))
    (i_CC : PySem.W.findIn K (.ref CC) "__init__" = some (some (.builtin "object.__init__")))
    (pg_CC : PySem.W.plainGet K CC Str.empty = true)
    (hd_CC : PySem.W.hasDictIn K CC = true)
    (po_CC : PySem.W.plainOver K CC = true)
    (sa_CC : PySem.W.findIn K (.ref CC) "__setattr__" = some (some (.builtin "object.__setattr__")))
    (mk_CC : PySem.W.makesIn K CC = true)
    (kp_CC : PySem.W.keepIn K (.ref CC) = true)
    (b_cno : PySem.W.findIn K (.ref CC) "nothing" = some (some (.ref f_cno)))
    (m_cno : PySem.W.isFn K (.ref f_cno) = true)
    (l_cno : K.lookup f_cno = some ⟨oc_cno, od_cno, .func (PySem.W.fnOf "nothing" "CountMaker.nothing" (defArgs sCm_no) (defBody sCm_no) (defScope sCm_no) .none kV_cno dc_cno pm_cno an_cno cd_cno ct_cno), sl_cno⟩)
    (c_cno : PySem.W.codeIn K cd_cno "CountMaker.nothing" = true)
    (k_cno : PySem.W.keepIn K (.ref f_cno) = true)
    (b_cof : PySem.W.findIn K (.ref CC) "of_step" = some (some (.ref f_cof)))
    (m_cof : PySem.W.isFn K (.ref f_cof) = true)
    (l_cof : K.lookup f_cof = some ⟨oc_cof, od_cof, .func (PySem.W.fnOf "of_step" "CountMaker.of_step" (defArgs sCm_of) (defBody sCm_of) (defScope sCm_of) .none kV_cof dc_cof pm_cof an_cof cd_cof ct_cof), sl_cof⟩)
    (c_cof : PySem.W.codeIn K cd_cof "CountMaker.of_step" = true)
    (k_cof : PySem.W.keepIn K (.ref f_cof) = true)
    (b_cjn : PySem.W.findIn K (.ref CC) "joined" = some (some (.ref f_cjn)))
    (m_cjn : PySem.W.isFn K (.ref f_cjn) = true)
    (l_cjn : K.lookup f_cjn = some ⟨oc_cjn, od_cjn, .func (PySem.W.fnOf "joined" "CountMaker.joined" (defArgs sCm_jn) (defBody sCm_jn) (defScope sCm_jn) .none kV_cjn dc_cjn pm_cjn an_cjn cd_cjn ct_cjn), sl_cjn⟩)
    (c_cjn : PySem.W.codeIn K cd_cjn "CountMaker.joined" = true)
    (k_cjn : PySem.W.keepIn K (.ref f_cjn) = true)
    (b_crp : PySem.W.findIn K (.ref CC) "repeated" = some (some (.ref f_crp)))
    (m_crp : PySem.W.isFn K (.ref f_crp) = true)
    (l_crp : K.lookup f_crp = some ⟨oc_crp, od_crp, .func (PySem.W.fnOf "repeated" "CountMaker.repeated" (defArgs sCm_rp) (defBody sCm_rp) (defScope sCm_rp) .none kV_crp dc_crp pm_crp an_crp cd_crp ct_crp), sl_crp⟩)
    (c_crp : PySem.W.codeIn K cd_crp "CountMaker.repeated" = true)
    (k_crp : PySem.W.keepIn K (.ref f_crp) = true)
    (a_LC : PySem.W.nsIn K mainGlobals "ListMaker" = some (some (.ref LC)))
    (i_LC : PySem.W.findIn K (.ref LC) "__init__" = some (some (.ref f_lin)))
    (j_LC : PySem.W.isFn K (.ref f_lin) = true)
    (pg_LC : PySem.W.plainGet K LC Str.empty = true)
    (hd_LC : PySem.W.hasDictIn K LC = true)
    (po_LC : PySem.W.plainOver K LC = true)
    (sa_LC : PySem.W.findIn K (.ref LC) "__setattr__" = some (some (.builtin "object.__setattr__")))
    (mk_LC : PySem.W.makesIn K LC = true)
    (kp_LC : PySem.W.keepIn K (.ref LC) = true)
    (n1_LC : PySem.W.findIn K (.ref LC) "most" = some none)
    (b_lno : PySem.W.findIn K (.ref LC) "nothing" = some (some (.ref f_lno)))
    (m_lno : PySem.W.isFn K (.ref f_lno) = true)
    (l_lno : K.lookup f_lno = some ⟨oc_lno, od_lno, .func (PySem.W.fnOf "nothing" "ListMaker.nothing" (defArgs sLm_no) (defBody sLm_no) (defScope sLm_no) .none kV_lno dc_lno pm_lno an_lno cd_lno ct_lno), sl_lno⟩)
    (c_lno : PySem.W.codeIn K cd_lno "ListMaker.nothing" = true)
    (k_lno : PySem.W.keepIn K (.ref f_lno) = true)
    (b_lof : PySem.W.findIn K (.ref LC) "of_step" = some (some (.ref f_lof)))
    (m_lof : PySem.W.isFn K (.ref f_lof) = true)
    (l_lof : K.lookup f_lof = some ⟨oc_lof, od_lof, .func (PySem.W.fnOf "of_step" "ListMaker.of_step" (defArgs sLm_of) (defBody sLm_of) (defScope sLm_of) .none kV_lof dc_lof pm_lof an_lof cd_lof ct_lof), sl_lof⟩)
    (c_lof : PySem.W.codeIn K cd_lof "ListMaker.of_step" = true)
    (k_lof : PySem.W.keepIn K (.ref f_lof) = true)
    (b_ljn : PySem.W.findIn K (.ref LC) "joined" = some (some (.ref f_ljn)))
    (m_ljn : PySem.W.isFn K (.ref f_ljn) = true)
    (l_ljn : K.lookup f_ljn = some ⟨oc_ljn, od_ljn, .func (PySem.W.fnOf "joined" "ListMaker.joined" (defArgs sLm_jn) (defBody sLm_jn) (defScope sLm_jn) .none kV_ljn dc_ljn pm_ljn an_ljn cd_ljn ct_ljn), sl_ljn⟩)
    (c_ljn : PySem.W.codeIn K cd_ljn "ListMaker.joined" = true)
    (k_ljn : PySem.W.keepIn K (.ref f_ljn) = true)
    (b_lrp : PySem.W.findIn K (.ref LC) "repeated" = some (some (.ref f_lrp)))
    (m_lrp : PySem.W.isFn K (.ref f_lrp) = true)
    (l_lrp : K.lookup f_lrp = some ⟨oc_lrp, od_lrp, .func (PySem.W.fnOf "repeated" "ListMaker.repeated" (defArgs sLm_rp) (defBody sLm_rp) (defScope sLm_rp) .none kV_lrp dc_lrp pm_lrp an_lrp cd_lrp ct_lrp), sl_lrp⟩)
    (c_lrp : PySem.W.codeIn K cd_lrp "ListMaker.repeated" = true)
    (k_lrp : PySem.W.keepIn K (.ref f_lrp) = true)
    (l_lin : K.lookup f_lin = some ⟨oc_lin, od_lin, .func (PySem.W.fnOf "__init__" "ListMaker.__init__" (defArgs sLm_in) (defBody sLm_in) (defScope sLm_in) .none kV_lin dc_lin pm_lin an_lin cd_lin ct_lin), sl_lin⟩)
    (c_lin : PySem.W.codeIn K cd_lin "ListMaker.__init__" = true)
    (k_lin : PySem.W.keepIn K (.ref f_lin) = true)
    (a_SC : PySem.W.nsIn K mainGlobals "Stretch" = some (some (.ref SC)))
    (i_SC : PySem.W.findIn K (.ref SC) "__init__" = some (some (.ref f_sSi)))
    (j_SC : PySem.W.isFn K (.ref f_sSi) = true)
    (pg_SC : PySem.W.plainGet K SC Str.empty = true)
    (hd_SC : PySem.W.hasDictIn K SC = true)
    (po_SC : PySem.W.plainOver K SC = true)
    (sa_SC : PySem.W.findIn K (.ref SC) "__setattr__" = some (some (.builtin "object.__setattr__")))
    (mk_SC : PySem.W.makesIn K SC = true)
    (kp_SC : PySem.W.keepIn K (.ref SC) = true)
    (n1_SC : PySem.W.findIn K (.ref SC) "todo" = some none)
    (n2_SC : PySem.W.findIn K (.ref SC) "name" = some none)
    (n3_SC : PySem.W.findIn K (.ref SC) "many" = some none)
    (n4_SC : PySem.W.findIn K (.ref SC) "worth" = some none)
    (l_sSi : K.lookup f_sSi = some ⟨oc_sSi, od_sSi, .func (PySem.W.fnOf "__init__" "Stretch.__init__" (defArgs sRk_Si) (defBody sRk_Si) (defScope sRk_Si) .none kV_sSi dc_sSi pm_sSi an_sSi cd_sSi ct_sSi), sl_sSi⟩)
    (c_sSi : PySem.W.codeIn K cd_sSi "Stretch.__init__" = true)
    (k_sSi : PySem.W.keepIn K (.ref f_sSi) = true)
    (a_RC : PySem.W.nsIn K mainGlobals "Reckoning" = some (some (.ref RC)))
    (i_RC : PySem.W.findIn K (.ref RC) "__init__" = some (some (.ref f_rRi)))
    (j_RC : PySem.W.isFn K (.ref f_rRi) = true)
    (pg_RC : PySem.W.plainGet K RC Str.empty = true)
    (hd_RC : PySem.W.hasDictIn K RC = true)
    (po_RC : PySem.W.plainOver K RC = true)
    (sa_RC : PySem.W.findIn K (.ref RC) "__setattr__" = some (some (.builtin "object.__setattr__")))
    (mk_RC : PySem.W.makesIn K RC = true)
    (kp_RC : PySem.W.keepIn K (.ref RC) = true)
    (n1_RC : PySem.W.findIn K (.ref RC) "maker" = some none)
    (n2_RC : PySem.W.findIn K (.ref RC) "book" = some none)
    (n3_RC : PySem.W.findIn K (.ref RC) "named" = some none)
    (n4_RC : PySem.W.findIn K (.ref RC) "begun_rows" = some none)
    (b_rbe : PySem.W.findIn K (.ref RC) "begin" = some (some (.ref f_rbe)))
    (m_rbe : PySem.W.isFn K (.ref f_rbe) = true)
    (l_rbe : K.lookup f_rbe = some ⟨oc_rbe, od_rbe, .func (PySem.W.fnOf "begin" "Reckoning.begin" (defArgs sRk_be) (defBody sRk_be) (defScope sRk_be) .none kV_rbe dc_rbe pm_rbe an_rbe cd_rbe ct_rbe), sl_rbe⟩)
    (c_rbe : PySem.W.codeIn K cd_rbe "Reckoning.begin" = true)
    (k_rbe : PySem.W.keepIn K (.ref f_rbe) = true)
    (b_rad : PySem.W.findIn K (.ref RC) "add_worth" = some (some (.ref f_rad)))
    (m_rad : PySem.W.isFn K (.ref f_rad) = true)
    (l_rad : K.lookup f_rad = some ⟨oc_rad, od_rad, .func (PySem.W.fnOf "add_worth" "Reckoning.add_worth" (defArgs sRk_ad) (defBody sRk_ad) (defScope sRk_ad) .none kV_rad dc_rad pm_rad an_rad cd_rad ct_rad), sl_rad⟩)
    (c_rad : PySem.W.codeIn K cd_rad "Reckoning.add_worth" = true)
    (k_rad : PySem.W.keepIn K (.ref f_rad) = true)
    (b_rdo : PySem.W.findIn K (.ref RC) "do_name" = some (some (.ref f_rdo)))
    (m_rdo : PySem.W.isFn K (.ref f_rdo) = true)
    (l_rdo : K.lookup f_rdo = some ⟨oc_rdo, od_rdo, .func (PySem.W.fnOf "do_name" "Reckoning.do_name" (defArgs sRk_do) (defBody sRk_do) (defScope sRk_do) .none kV_rdo dc_rdo pm_rdo an_rdo cd_rdo ct_rdo), sl_rdo⟩)
    (c_rdo : PySem.W.codeIn K cd_rdo "Reckoning.do_name" = true)
    (k_rdo : PySem.W.keepIn K (.ref f_rdo) = true)
    (b_rst : PySem.W.findIn K (.ref RC) "do_step" = some (some (.ref f_rst)))
    (m_rst : PySem.W.isFn K (.ref f_rst) = true)
    (l_rst : K.lookup f_rst = some ⟨oc_rst, od_rst, .func (PySem.W.fnOf "do_step" "Reckoning.do_step" (defArgs sRk_st) (defBody sRk_st) (defScope sRk_st) .none kV_rst dc_rst pm_rst an_rst cd_rst ct_rst), sl_rst⟩)
    (c_rst : PySem.W.codeIn K cd_rst "Reckoning.do_step" = true)
    (k_rst : PySem.W.keepIn K (.ref f_rst) = true)
    (b_rfi : PySem.W.findIn K (.ref RC) "finish" = some (some (.ref f_rfi)))
    (m_rfi : PySem.W.isFn K (.ref f_rfi) = true)
    (l_rfi : K.lookup f_rfi = some ⟨oc_rfi, od_rfi, .func (PySem.W.fnOf "finish" "Reckoning.finish" (defArgs sRk_fi) (defBody sRk_fi) (defScope sRk_fi) .none kV_rfi dc_rfi pm_rfi an_rfi cd_rfi ct_rfi), sl_rfi⟩)
    (c_rfi : PySem.W.codeIn K cd_rfi "Reckoning.finish" = true)
    (k_rfi : PySem.W.keepIn K (.ref f_rfi) = true)
    (b_rwo : PySem.W.findIn K (.ref RC) "worth_of" = some (some (.ref f_rwo)))
    (m_rwo : PySem.W.isFn K (.ref f_rwo) = true)
    (l_rwo : K.lookup f_rwo = some ⟨oc_rwo, od_rwo, .func (PySem.W.fnOf "worth_of" "Reckoning.worth_of" (defArgs sRk_wo) (defBody sRk_wo) (defScope sRk_wo) .none kV_rwo dc_rwo pm_rwo an_rwo cd_rwo ct_rwo), sl_rwo⟩)
    (c_rwo : PySem.W.codeIn K cd_rwo "Reckoning.worth_of" = true)
    (k_rwo : PySem.W.keepIn K (.ref f_rwo) = true)
    (l_rRi : K.lookup f_rRi = some ⟨oc_rRi, od_rRi, .func (PySem.W.fnOf "__init__" "Reckoning.__init__" (defArgs sRk_Ri) (defBody sRk_Ri) (defScope sRk_Ri) .none kV_rRi dc_rRi pm_rRi an_rRi cd_rRi ct_rRi), sl_rRi⟩)
    (c_rRi : PySem.W.codeIn K cd_rRi "Reckoning.__init__" = true)
    (k_rRi : PySem.W.keepIn K (.ref f_rRi) = true)
    (w_my : PySem.W.nsIn K Kd_my "book" = some (some .none))
    (w_sb : PySem.W.nsIn K Kd_sp "book" = some (some .none))
    (w_sm : PySem.W.nsIn K Kd_sp "most" = some (some (.int 400 t_sp)))
    (z_list : PySem.W.nsIn K mainGlobals "list" = some none)
    (z_sorted : PySem.W.nsIn K mainGlobals "sorted" = some none)
    (z_set : PySem.W.nsIn K mainGlobals "set" = some none)
    (z_all : PySem.W.nsIn K mainGlobals "all" = some none)
    (z_len : PySem.W.nsIn K mainGlobals "len" = some none)
    (z_enumerate : PySem.W.nsIn K mainGlobals "enumerate" = some none)
    (z_range : PySem.W.nsIn K mainGlobals "range" = some none)
    (z_isinstance : PySem.W.nsIn K mainGlobals "isinstance" = some none)
    (z_tuple : PySem.W.nsIn K mainGlobals "tuple" = some none)
    (z_ValueError : PySem.W.nsIn K mainGlobals "ValueError" = some none)
    (z_bool : PySem.W.nsIn K mainGlobals "bool" = some none)
    (z_str : PySem.W.nsIn K mainGlobals "str" = some none)
    (z_int : PySem.W.nsIn K mainGlobals "int" = some none)
    (z_min : PySem.W.nsIn K mainGlobals "min" = some none)
    (z_max : PySem.W.nsIn K mainGlobals "max" = some none)
    (e_wSMALL : PySem.W.nsIn K mainGlobals "SMALL" = some (some (.str SM t1)))
    (e_wLETTERS : PySem.W.nsIn K mainGlobals "LETTERS" = some (some (.str LT t2)))
    (e_wMOST_STEPS : PySem.W.nsIn K mainGlobals "MOST_STEPS" = some (some (.int 60 t4)))
    (e_wMOST_DEEP : PySem.W.nsIn K mainGlobals "MOST_DEEP" = some (some (.int 12 t5)))
    (e_wMOST_TIMES : PySem.W.nsIn K mainGlobals "MOST_TIMES" = some (some (.int (10 ^ 30) t6)))
    (e_wMOST_SIDES : PySem.W.nsIn K mainGlobals "MOST_SIDES" = some (some (.int 12 t7)))
    (e_wLONGEST_NAME : PySem.W.nsIn K mainGlobals "LONGEST_NAME" = some (some (.int 8 t8)))
    (e_wMOST_DONE : PySem.W.nsIn K mainGlobals "MOST_DONE" = some (some (.int (10 ^ 60) t9)))
    (e_wMOST_LISTED : PySem.W.nsIn K mainGlobals "MOST_LISTED" = some (some (.int 400 t10)))
    (a_L : PySem.W.nsIn K mainGlobals "law" = some (some (.ref fL)))
    (l_L : K.lookup fL = some ⟨ocL, odL, .func (PySem.W.fnOf "law" "law" (defArgs sLaw) (defBody sLaw) (defScope sLaw) .none kVL dcL pmL anL (.ref c) ctL), slL⟩)
    (c_L : PySem.W.codeIn K (.ref c) "law" = true)
    (h_L : PySem.W.codeHdIn K c PT = true)
    : LamX.LawAtS l w K CX0 37 63 "_law_script" mg fa h := by
  have F_w := fun_mk (st := sIsWord) l_w c_w k_w
  have D_w : DF K mg "is_word" sIsWord ["thing", "letters", "fewest", "most"] f_w _ := ⟨F_w, PySem.W.mg_of X G a_w, F_w.binds (ps := ["thing", "letters", "fewest", "most"]) fun _ _ _ _ _ _ us hl => match us, hl with | [_, _, _, _], _ => rfl⟩
  have F_n := fun_mk (st := sIsName) l_n c_n k_n
  have D_n : DF K mg "is_name" sIsName ["thing"] f_n _ := ⟨F_n, PySem.W.mg_of X G a_n, F_n.binds (ps := ["thing"]) fun _ _ _ _ _ _ us hl => match us, hl with | [_], _ => rfl⟩
  have F_nu := fun_mk (st := sIsNum) l_nu c_nu k_nu
  have D_nu : DF K mg "is_number" sIsNum ["thing", "most"] f_nu _ := ⟨F_nu, PySem.W.mg_of X G a_nu, F_nu.binds (ps := ["thing", "most"]) fun _ _ _ _ _ _ us hl => match us, hl with | [_, _], _ => rfl⟩
  have F_tu := fun_mk (st := sIsTup) l_tu c_tu k_tu
  have D_tu : DF K mg "is_tuple_of" sIsTup ["thing", "many"] f_tu _ := ⟨F_tu, PySem.W.mg_of X G a_tu, F_tu.binds (ps := ["thing", "many"]) fun _ _ _ _ _ _ us hl => match us, hl with | [_, _], _ => rfl⟩
  have F_pl := fun_mk (st := sIsPlain) l_pl c_pl k_pl
  have D_pl : DF K mg "is_plain_step" sIsPlain ["step"] f_pl _ := ⟨F_pl, PySem.W.mg_of X G a_pl, F_pl.binds (ps := ["step"]) fun _ _ _ _ _ _ us hl => match us, hl with | [_], _ => rfl⟩
  have F_gh := fun_mk (st := sIsHead) l_gh c_gh k_gh
  have D_gh : DF K mg "is_group_head" sIsHead ["step"] f_gh _ := ⟨F_gh, PySem.W.mg_of X G a_gh, F_gh.binds (ps := ["step"]) fun _ _ _ _ _ _ us hl => match us, hl with | [_], _ => rfl⟩
  have F_ls := fun_mk (st := sLbS) l_ls c_ls k_ls
  have D_ls : DF K mg "left_behind_step" sLbS ["step", "deep", "left"] f_ls _ := ⟨F_ls, PySem.W.mg_of X G a_ls, F_ls.binds (ps := ["step", "deep", "left"]) fun _ _ _ _ _ _ us hl => match us, hl with | [_, _, _], _ => rfl⟩
  have F_lb := fun_mk (st := sLb) l_lb c_lb k_lb
  have D_lb : DF K mg "left_behind" sLb ["row", "deep", "left"] f_lb _ := ⟨F_lb, PySem.W.mg_of X G a_lb, F_lb.binds (ps := ["row", "deep", "left"]) fun _ _ _ _ _ _ us hl => match us, hl with | [_, _, _], _ => rfl⟩
  have F_ir := fun_mk (st := sIsRow) l_ir c_ir k_ir
  have D_ir : DF K mg "is_row" sIsRow ["tree"] f_ir _ := ⟨F_ir, PySem.W.mg_of X G a_ir, F_ir.binds (ps := ["tree"]) fun _ _ _ _ _ _ us hl => match us, hl with | [_], _ => rfl⟩
  have F_of := fun_mk (st := sOf) l_of c_of k_of
  have D_of : DF K mg "_law_of" sOf ["_law_d", "_law_some"] f_of _ := ⟨F_of, PySem.W.mg_of X G a_of, F_of.binds (ps := ["_law_d", "_law_some"]) fun _ _ _ _ _ _ us hl => match us, hl with | [_, _], _ => rfl⟩
  have F_draw := fun_mk (st := sDraw) l_draw c_draw k_draw
  have D_draw : DF K mg "_law_draw" sDraw ["_law_d", "_law_many"] f_draw _ := ⟨F_draw, PySem.W.mg_of X G a_draw, F_draw.binds (ps := ["_law_d", "_law_many"]) fun _ _ _ _ _ _ us hl => match us, hl with | [_, _], _ => rfl⟩
  have F_letters := fun_mk (st := sLetters) l_letters c_letters k_letters
  have D_letters : DF K mg "_law_letters" sLetters [] f_letters _ := ⟨F_letters, PySem.W.mg_of X G a_letters, F_letters.binds (ps := []) fun _ _ _ _ _ _ us hl => match us, hl with | [], _ => rfl⟩
  have F_number := fun_mk (st := sNumber) l_number c_number k_number
  have D_number : DF K mg "_law_number" sNumber ["_law_d"] f_number _ := ⟨F_number, PySem.W.mg_of X G a_number, F_number.binds (ps := ["_law_d"]) fun _ _ _ _ _ _ us hl => match us, hl with | [_], _ => rfl⟩
  have F_names := fun_mk (st := sNames) l_names c_names k_names
  have D_names : DF K mg "_law_names" sNames ["_law_d", "_law_many"] f_names _ := ⟨F_names, PySem.W.mg_of X G a_names, F_names.binds (ps := ["_law_d", "_law_many"]) fun _ _ _ _ _ _ us hl => match us, hl with | [_, _], _ => rfl⟩
  have F_flat := fun_mk (st := sFlat) l_flat c_flat k_flat
  have D_flat : DF K mg "_law_flat_tree" sFlat ["_law_steps"] f_flat _ := ⟨F_flat, PySem.W.mg_of X G a_flat, F_flat.binds (ps := ["_law_steps"]) fun _ _ _ _ _ _ us hl => match us, hl with | [_], _ => rfl⟩
  have F_count := fun_mk (st := sCount) l_count c_count k_count
  have D_count : DF K mg "_law_count" sCount ["_law_book_it", "_law_known", "_law_tree"] f_count _ := ⟨F_count, PySem.W.mg_of X G a_count, F_count.binds (ps := ["_law_book_it", "_law_known", "_law_tree"]) fun _ _ _ _ _ _ us hl => match us, hl with | [_, _, _], _ => rfl⟩
  have F_tower := fun_mk (st := sTower) l_tower c_tower k_tower
  have D_tower : DF K mg "_law_tower" sTower ["_law_d", "_law_names_here", "_law_k"] f_tower _ := ⟨F_tower, PySem.W.mg_of X G a_tower, F_tower.binds (ps := ["_law_d", "_law_names_here", "_law_k"]) fun _ _ _ _ _ _ us hl => match us, hl with | [_, _, _], _ => rfl⟩
  have F_cr := fun_mk (st := sChkRow) l_cr c_cr k_cr
  have D_cr : DF K mg "check_row" sChkRow ["tree"] f_cr _ := ⟨F_cr, PySem.W.mg_of X G a_cr, F_cr.binds (ps := ["tree"]) fun _ _ _ _ _ _ us hl => match us, hl with | [_], _ => rfl⟩
  have F_ma := fun_mk (st := sMadeOf) l_ma c_ma k_ma
  have D_ma : DF K mg "made_of" sMadeOf ["maker", "tree", "book"] f_ma _ := ⟨F_ma, PySem.W.mg_of X G a_ma, F_ma.binds (ps := ["maker", "tree", "book"]) fun _ _ _ _ _ _ us hl => match us, hl with | [_, _, _], _ => rfl⟩
  have F_same := fun_mk (st := sSame) l_same c_same k_same
  have D_same : DF K mg "_law_same" sSame ["_law_x", "_law_due"] f_same _ := ⟨F_same, PySem.W.mg_of X G a_same, F_same.binds (ps := ["_law_x", "_law_due"]) fun _ _ _ _ _ _ us hl => match us, hl with | [_, _], _ => rfl⟩
  have F_start := fun_mk (st := sStart) l_start c_start k_start
  have D_start : DF K mg "_law_start" sStart ["_law_script"] f_start _ := ⟨F_start, PySem.W.mg_of X G a_start, F_start.binds (ps := ["_law_script"]) fun _ _ _ _ _ _ us hl => match us, hl with | [_], _ => rfl⟩
  have F_told := fun_mk (st := sTold) l_told c_told k_told
  have D_told : DF K mg "_law_told" sTold ["_law_ask"] f_told _ := ⟨F_told, PySem.W.mg_of X G a_told, F_told.binds (ps := ["_law_ask"]) fun _ _ _ _ _ _ us hl => match us, hl with | [_], _ => rfl⟩
  have F_iH := fun_mk (st := sHEinit) l_iH c_iH k_iH
  have b_iH := F_iH.binds (ps := ["self", "word"]) fun _ _ _ _ _ _ us hl => match us, hl with | [_, _], _ => rfl
  have F_iT := fun_mk (st := sTMinit) l_iT c_iT k_iT
  have b_iT := F_iT.binds (ps := ["self", "most"]) fun _ _ _ _ _ _ us hl => match us, hl with | [_, _], _ => rfl
  have e := hfa.symm.trans (PySem.W.mg_of X G a_L)
  cases e
  have B : BM mg := ⟨PySem.W.mg_none_of X G z_list, PySem.W.mg_none_of X G z_sorted, PySem.W.mg_none_of X G z_set, PySem.W.mg_none_of X G z_all, PySem.W.mg_none_of X G z_len, PySem.W.mg_none_of X G z_enumerate, PySem.W.mg_none_of X G z_range, PySem.W.mg_none_of X G z_isinstance, PySem.W.mg_none_of X G z_tuple⟩
  have he : HE K mg CH f_iH _ := ⟨PySem.W.mg_of X G a_CH, ⟨_, ⟨r_H, g_H⟩, i_H⟩, F_iH, b_iH, PySem.W.mg_none_of X G z_ValueError, v_V⟩
  have xCT : XC K mg "TooMany" "TooMany.__init__" sTMinit "most" CT f_iT _ := ⟨PySem.W.mg_of X G a_CT, ⟨⟨_, _, _, _, _, _, _, _, _, _, _, _, _, _, _, x_CT, rv_CT⟩, sa_CT, ex_CT, ty_CT, kc_CT⟩, n_CT_word, n_CT_most, i_CT, t_CT, F_iT, b_iT⟩
  have F_cno := fun_mk (st := sCm_no) l_cno c_cno k_cno
  have b1_cno := F_cno.binds (ps := ["self"]) fun _ _ _ _ _ _ us hl => match us, hl with | [_], _ => rfl
  have F_cof := fun_mk (st := sCm_of) l_cof c_cof k_cof
  have b1_cof := F_cof.binds (ps := ["self", "step"]) fun _ _ _ _ _ _ us hl => match us, hl with | [_, _], _ => rfl
  have F_cjn := fun_mk (st := sCm_jn) l_cjn c_cjn k_cjn
  have b1_cjn := F_cjn.binds (ps := ["self", "ahead", "behind"]) fun _ _ _ _ _ _ us hl => match us, hl with | [_, _, _], _ => rfl
  have F_crp := fun_mk (st := sCm_rp) l_crp c_crp k_crp
  have b1_crp := F_crp.binds (ps := ["self", "once", "many"]) fun _ _ _ _ _ _ us hl => match us, hl with | [_, _, _], _ => rfl
  have F_lno := fun_mk (st := sLm_no) l_lno c_lno k_lno
  have b1_lno := F_lno.binds (ps := ["self"]) fun _ _ _ _ _ _ us hl => match us, hl with | [_], _ => rfl
  have F_lof := fun_mk (st := sLm_of) l_lof c_lof k_lof
  have b1_lof := F_lof.binds (ps := ["self", "step"]) fun _ _ _ _ _ _ us hl => match us, hl with | [_, _], _ => rfl
  have F_ljn := fun_mk (st := sLm_jn) l_ljn c_ljn k_ljn
  have b1_ljn := F_ljn.binds (ps := ["self", "ahead", "behind"]) fun _ _ _ _ _ _ us hl => match us, hl with | [_, _, _], _ => rfl
  have F_lrp := fun_mk (st := sLm_rp) l_lrp c_lrp k_lrp
  have b1_lrp := F_lrp.binds (ps := ["self", "once", "many"]) fun _ _ _ _ _ _ us hl => match us, hl with | [_, _, _], _ => rfl
  have F_lin := fun_mk (st := sLm_in) l_lin c_lin k_lin
  have b1_lin := F_lin.binds (ps := ["self", "most"]) fun _ _ _ _ _ _ us hl => match us, hl with | [_, _], _ => rfl
  have F_sSi := fun_mk (st := sRk_Si) l_sSi c_sSi k_sSi
  have b1_sSi := F_sSi.binds (ps := ["self", "row", "name", "many", "worth"]) fun _ _ _ _ _ _ us hl => match us, hl with | [_, _, _, _, _], _ => rfl
  have F_rbe := fun_mk (st := sRk_be) l_rbe c_rbe k_rbe
  have b1_rbe := F_rbe.binds (ps := ["self", "row", "name", "many"]) fun _ _ _ _ _ _ us hl => match us, hl with | [_, _, _, _], _ => rfl
  have F_rad := fun_mk (st := sRk_ad) l_rad c_rad k_rad
  have b1_rad := F_rad.binds (ps := ["self", "worth"]) fun _ _ _ _ _ _ us hl => match us, hl with | [_, _], _ => rfl
  have F_rdo := fun_mk (st := sRk_do) l_rdo c_rdo k_rdo
  have b1_rdo := F_rdo.binds (ps := ["self", "name"]) fun _ _ _ _ _ _ us hl => match us, hl with | [_, _], _ => rfl
  have F_rst := fun_mk (st := sRk_st) l_rst c_rst k_rst
  have b1_rst := F_rst.binds (ps := ["self", "step"]) fun _ _ _ _ _ _ us hl => match us, hl with | [_, _], _ => rfl
  have F_rfi := fun_mk (st := sRk_fi) l_rfi c_rfi k_rfi
  have b1_rfi := F_rfi.binds (ps := ["self"]) fun _ _ _ _ _ _ us hl => match us, hl with | [_], _ => rfl
  have F_rwo := fun_mk (st := sRk_wo) l_rwo c_rwo k_rwo
  have b1_rwo := F_rwo.binds (ps := ["self", "row"]) fun _ _ _ _ _ _ us hl => match us, hl with | [_, _], _ => rfl
  have F_rRi := fun_mk (st := sRk_Ri) l_rRi c_rRi k_rRi
  have b1_rRi := F_rRi.binds (ps := ["self", "maker", "book"]) fun _ _ _ _ _ _ us hl => match us, hl with | [_, _, _], _ => rfl
  have rd : RowD K mg f_w f_n f_nu f_tu f_pl f_gh f_ls f_lb f_ir _ _ _ _ _ _ _ _ _ := ⟨D_w, D_n, D_nu, D_tu, D_pl, D_gh, D_ls, D_lb, D_ir, ⟨_, PySem.W.mg_of X G e_wSMALL⟩, ⟨_, PySem.W.mg_of X G e_wLETTERS⟩, ⟨_, PySem.W.mg_of X G e_wMOST_STEPS⟩, ⟨_, PySem.W.mg_of X G e_wMOST_DEEP⟩, ⟨_, PySem.W.mg_of X G e_wMOST_TIMES⟩, ⟨_, PySem.W.mg_of X G e_wMOST_SIDES⟩, ⟨_, PySem.W.mg_of X G e_wLONGEST_NAME⟩, (PySem.W.mg_none_of X G z_isinstance), (PySem.W.mg_none_of X G z_str), (PySem.W.mg_none_of X G z_len), (PySem.W.mg_none_of X G z_all), (PySem.W.mg_none_of X G z_int), (PySem.W.mg_none_of X G z_bool), (PySem.W.mg_none_of X G z_tuple)⟩
  have rk : RkC K mg SC RC f_sSi f_rRi f_rbe f_rad f_rdo f_rst f_rfi f_rwo _ _ _ _ _ _ _ _ := ⟨PySem.W.mg_of X G a_SC, ⟨pg_SC, hd_SC, po_SC, sa_SC⟩, ⟨mk_SC, i_SC, j_SC, kp_SC⟩, PySem.W.mg_of X G a_RC, ⟨pg_RC, hd_RC, po_RC, sa_RC⟩, ⟨mk_RC, i_RC, j_RC, kp_RC⟩, n1_SC, n2_SC, n3_SC, n4_SC, n1_RC, n2_RC, n3_RC, n4_RC, F_sSi, b1_sSi, F_rRi, b1_rRi, F_rbe, b1_rbe, ⟨b_rbe, m_rbe, k_rbe⟩, F_rad, b1_rad, ⟨b_rad, m_rad, k_rad⟩, F_rdo, b1_rdo, ⟨b_rdo, m_rdo, k_rdo⟩, F_rst, b1_rst, ⟨b_rst, m_rst, k_rst⟩, F_rfi, b1_rfi, ⟨b_rfi, m_rfi, k_rfi⟩, F_rwo, b1_rwo, ⟨b_rwo, m_rwo, k_rwo⟩, (PySem.W.mg_none_of X G z_list), (PySem.W.mg_none_of X G z_len)⟩
  have cm : CmC K mg CC f_cno f_cof f_cjn f_crp _ _ _ _ := ⟨PySem.W.mg_of X G a_CC, ⟨pg_CC, hd_CC, po_CC, sa_CC⟩, ⟨mk_CC, i_CC, kp_CC⟩, F_cno, b1_cno, ⟨b_cno, m_cno, k_cno⟩, F_cof, b1_cof, ⟨b_cof, m_cof, k_cof⟩, F_cjn, b1_cjn, ⟨b_cjn, m_cjn, k_cjn⟩, F_crp, b1_crp, ⟨b_crp, m_crp, k_crp⟩, ⟨_, PySem.W.mg_of X G e_wMOST_DONE⟩⟩
  have lm : LmC K mg LC f_lin f_lno f_lof f_ljn f_lrp _ _ _ _ _ := ⟨PySem.W.mg_of X G a_LC, ⟨pg_LC, hd_LC, po_LC, sa_LC⟩, ⟨mk_LC, i_LC, j_LC, kp_LC⟩, n1_LC, F_lin, b1_lin, F_lno, b1_lno, ⟨b_lno, m_lno, k_lno⟩, F_lof, b1_lof, ⟨b_lof, m_lof, k_lof⟩, F_ljn, b1_ljn, ⟨b_ljn, m_ljn, k_ljn⟩, F_lrp, b1_lrp, ⟨b_lrp, m_lrp, k_lrp⟩, (PySem.W.mg_none_of X G z_len), (PySem.W.mg_none_of X G z_min)⟩
  have rl : RL K mg f_of f_draw f_letters f_number f_names f_flat f_count f_tower _ _ _ _ _ _ _ _ := ⟨D_of, D_draw, D_letters, D_number, D_names, D_flat, D_count, D_tower⟩
  have ex : EX K CT := ⟨⟨ga_CT, gg_CT, ex_CT, hd_CT⟩, exm_of ex_CT ic_CT ty_CT e_CT_CT⟩
  have FM : FunD K "many_done" "many_done" (defArgs sMany) (defBody sMany) (defScope sMany) [] [("book", .non)] f_my _ := ⟨⟨_, _, _, _, _, _, _, _, _, _, rfl, l_my, c_my, .inl ⟨rfl, rfl⟩, .inr ⟨Kd_my, rfl, fun q hq => by rw [List.mem_singleton.mp hq]; exact ⟨_, w_my, rfl⟩⟩⟩, k_my⟩
  have FS : FunD K "spelled" "spelled" (defArgs sSpelled) (defBody sSpelled) (defScope sSpelled) [] [("book", .non), ("most", .int 400)] f_sp _ := ⟨⟨_, _, _, _, _, _, _, _, _, _, rfl, l_sp, c_sp, .inl ⟨rfl, rfl⟩, .inr ⟨Kd_sp, rfl, fun q hq => by
    rcases List.mem_cons.mp hq with rfl | hq
    · exact ⟨_, w_sb, rfl⟩
    · rw [List.mem_singleton.mp hq]; exact ⟨_, w_sm, t_sp, rfl⟩⟩⟩, k_sp⟩
  obtain ⟨dsS, hdsS, bS⟩ := FS.binds0 (ps := ["tree", "book", "most"]) 1 (by simp) rfl (fun _ _ _ _ _ _ us ks h1 h2 => match us, ks, h1, h2 with | [_], [_, _], _, _ => ⟨_, _, _, _, _, _, rfl, rfl, ⟨_, _, _, _, _, _, rfl, rfl, rfl⟩⟩)
  have hdsS2 : ∃ v1 v2, dsS = [v1, v2] ∧ RelV .non v1 ∧ RelV (.int 400) v2 := by
    have z : Vals [V.non, V.int 400] dsS := hdsS
    cases z with
    | cons r t =>
      cases t with
      | cons r2 t2 =>
        cases t2
        exact ⟨_, _, rfl, r, r2⟩
  obtain ⟨v_1, v_2, rfl, rv_1, rv_2⟩ := hdsS2
  have kM : KBn K _ ["tree", "book"] 1 ["book"] (gAp (α := Value)) gAp := kw_1 (fd := PySem.W.fnOf "many_done" "many_done" (defArgs sMany) (defBody sMany) (defScope sMany) .none (.ref Kd_my) dc_my pm_my an_my cd_my ct_my) fun a b => rfl
  have kS : KBn K _ ["tree", "book", "most"] 1 ["book", "most"] (gAp (α := Value)) gAp := kw_2 (fd := PySem.W.fnOf "spelled" "spelled" (defArgs sSpelled) (defBody sSpelled) (defScope sSpelled) .none (.ref Kd_sp) dc_sp pm_sp an_sp cd_sp ct_sp) fun a b d => rfl
  refine ⟨_, [(c, PT)], spLawT K [(PT, lamN (.ref c))], fun p hp => ?_, fun p hp => ?_, fun p hp => ?_, fun s u => .of_eq rfl, fun H a ns hl hb hH hS => ⟨a, ns, rfl, hS, fun p hp => ?_, fun _ => rfl⟩, fun base KB GB TB => ok_law (k := 0) l_L c_L (TB _ (List.mem_cons_self ..)) ex he xCT rd D_cr rk cm lm D_ma FM (PySem.W.mg_of X G a_my) kM FS (PySem.W.mg_of X G a_sp) kS bS rv_1 rv_2 B (PySem.W.mg_none_of X G z_bool) (PySem.W.mg_none_of X G z_str) (PySem.W.mg_none_of X G z_max) D_same D_start D_told rl (PySem.W.mg_of X G e_wMOST_LISTED)⟩
  · rw [List.mem_singleton.mp hp]
    exact hPT
  · rw [List.mem_singleton.mp hp]
    exact nPT
  · rw [List.mem_singleton.mp hp]
    exact PySem.W.codeHd_of_K X h_L
  · rw [List.mem_singleton.mp hp]
    exact LamX.TabS.nil (hH _ (List.mem_cons_self ..))
end NC
noncomputable section
namespace HC
open PySem PySem.W PySem.Calls PyProof.Rows HeadRun
def execsQ := PySem.W.Fast.tw12563942051412417395
theorem execsQ_eq : @PySem.execs = execsQ := PySem.W.Fast.te12563942051412417395
def blockQ := PySem.W.Fast.tw1066825118222455980
theorem blockQ_eq : @PySem.blockStart = blockQ := PySem.W.Fast.te1066825118222455980
section
variable (go : SharedT → Thread → Option (SharedT × Thread)) (lo : Nat) (an : Option Value)
/-- some statements, to their end -/
def goS : Nat → SharedT → Thread → Option (Flow × SharedT × Code × Pos)
  | 0, _, _ => none
  | m + 1, S, T => match endAt 1 T with
    | some x => some (x, S, T.code, T.pos)
    | none => match stepOk lo an T with
      | false => none
      | true => match go S T with
        | none => none
        | some (S', T') => frS S' fun S2 => goS m S2 T'
/-- so many steps of the top -/
def goG : Nat → SharedT → Thread → Option (SharedT × Thread)
  | 0, S, T => some (S, T)
  | m + 1, S, T => match through T with
    | true => none
    | false => match stepOk lo an T with
      | false => none
      | true => match go S T with
        | none => none
        | some (S', T') => frS S' fun S2 => goG m S2 T'
end
section
variable {tb : String → Option Builtin} {p : Program} {w : World} {lo : Nat} {an : Option Value}
theorem goS_ok : ∀ {m : Nat} {S S' : SharedT} {T : Thread} {x : Flow} {c : Code} {q : Pos}, goS (stepT (denote tb) p w) lo an m S T = some (x, S', c, q) → segRun tb p w lo an 1 m S.abs T = some (x, S'.abs, c, q)
  | 0, _, _, _, _, _, _, h => nomatch h
  | m + 1, S, S', T, x, c, q, h => by
    unfold goS at h
    unfold segRun
    cases h1 : endAt 1 T with
    | some y =>
      simp only [h1, Option.some.injEq, Prod.mk.injEq] at h ⊢
      obtain ⟨a, b, d, e⟩ := h
      exact ⟨a, by rw [b], d, e⟩
    | none =>
      cases h2 : stepOk lo an T with
      | false => simp [h1, h2] at h
      | true =>
        cases h3 : stepT (denote tb) p w S T with
        | none => simp [h1, h2, h3] at h
        | some r =>
          obtain ⟨S2, T2⟩ := r
          simp only [h1, h2, h3, frS_eq] at h
          simp only [stepT_spec h3]
          exact goS_ok h
theorem goG_ok : ∀ {m : Nat} {S S' : SharedT} {T T' : Thread}, goG (stepT (denote tb) p w) lo an m S T = some (S', T') → topGo tb p w lo an m S.abs T = some (S'.abs, T')
  | 0, S, S', T, T', h => by
    unfold goG at h
    simp only [Option.some.injEq, Prod.mk.injEq] at h
    obtain ⟨a, b⟩ := h
    rw [← a, ← b]
    rfl
  | m + 1, S, S', T, T', h => by
    unfold goG at h
    unfold topGo
    cases h1 : through T with
    | true => simp [h1] at h
    | false =>
      cases h2 : stepOk lo an T with
      | false => simp [h1, h2] at h
      | true =>
        cases h3 : stepT (denote tb) p w S T with
        | none => simp [h1, h2, h3] at h
        | some r =>
          obtain ⟨S2, T2⟩ := r
          simp only [h1, h2, h3, frS_eq] at h
          simp only [stepT_spec h3]
          exact goG_ok h
end
/-- the machine, by the twins -/
abbrev mq (p : Program) (w : World) : SharedT → Thread → Option (SharedT × Thread) := stepQ (denQ tabQ) p w
/-- a state by the list of its objects -/
def stL (w : World) (l : List Obj) (k : Nat) (os : OsState) : SharedT := match putAll l .nil 0 with
  | some (t, n) => ⟨t, n, (boot_heap w.params).life, #[], boot_drawn, k, os⟩
  | none => ⟨.nil, 0, (boot_heap w.params).life, #[], boot_drawn, k, os⟩
abbrev thS (l : List Stmt) (env : Env) (c : Code) (a : Pos) (q : Pos) : Thread := ⟨(execsQ l env).wrap doneF deadEnd id id, c, a, [topFrame q]⟩
abbrev thB (l : List Stmt) (env : Env) (c : Code) (a : Pos) (q : Pos) : Thread := ⟨(blockQ l env).wrap (fun _ => doneF .next) deadEnd id id, c, a, [topFrame q]⟩
section
variable {p : Program} {w : World} {lo : Nat} {an : Option Value} {env : Env} {q a a' : Pos} {c : Code} {m N : Nat} {S S' : SharedT} {l rest : List Stmt} {r : Shared}
theorem mq_eq : mq p w = stepT (denote treeTable) p w := by
  show stepQ (denQ tabQ) p w = _
  rw [← stepQ_eq, ← denQ_eq, ← tabQ_eq]
theorem run_seg (h : goS (mq p w) lo an m S (thS l env c a q) = some (.next, S', c, a')) (k : topRun treeTable p w lo an N S'.abs (restOf rest env c a' [topFrame q]) = some r) :
    topRun treeTable p w lo an (m + N) S.abs (restOf (l ++ rest) env c a [topFrame q]) = some r := by
  rw [mq_eq] at h
  unfold thS at h
  rw [← execsQ_eq] at h
  exact piece_app (goS_ok h) k
theorem run_end (h : goF (mq p w) lo an m S ⟨doneF .next, c, a, [topFrame q]⟩ = some S') : topRun treeTable p w lo an m S.abs (restOf [] env c a [topFrame q]) = some S'.abs := by
  rw [mq_eq] at h
  exact piece_nil (goF_ok h)
theorem run_top {m2 : Nat} {Sa Sb : SharedT} {ab : Pos} {b : List Stmt} (h0 : goG (mq p w) lo an m S (topStub p) = some (Sa, ⟨denQ tabQ (.body b env), .body b env, a, [topFrame q]⟩)) (h1 : goS (mq p w) lo an m2 Sa (thB b env (.body b env) a q) = some (.next, Sb, .body b env, ab))
    (k : topRun treeTable p w lo an N Sb.abs (restOf b env (.body b env) ab [topFrame q]) = some r) : topRun treeTable p w lo an (m + (m2 + N)) S.abs (topStub p) = some r := by
  rw [mq_eq] at h0 h1
  rw [← denQ_eq, ← tabQ_eq] at h0
  unfold thB at h1
  rw [← blockQ_eq] at h1
  exact go_top (goG_ok h0) (piece_block (goS_ok h1) k)
end
theorem boot_abs (w : World) (os : OsState) {t : PySem.W.BT} {n : Nat} (e : putAll (boot_heap w.params).objs.toList .nil 0 = some (t, n)) : (stL w (boot_heap w.params).objs.toList boot_toks os).abs = ⟨boot_heap w.params, #[], boot_drawn, boot_toks, os⟩ := by
  unfold stL
  rw [e]
  show (⟨absHeap t n (boot_heap w.params).life, #[], boot_drawn, boot_toks, os⟩ : Shared) = _
  rw [putAll_heap e]
end HC
namespace HC
open PySem PySem.W PySem.Calls PyProof.Rows HeadRun
def hpL (P : Params) (l : List Obj) : Heap := match putAll l .nil 0 with
  | some (t, n) => absHeap t n (boot_heap P).life
  | none => absHeap .nil 0 (boot_heap P).life
theorem stL_abs (w : World) (l : List Obj) (k : Nat) (os : OsState) : (stL w l k os).abs = ⟨hpL w.params l, #[], boot_drawn, k, os⟩ := by
  unfold stL hpL
  cases putAll l .nil 0 <;> rfl
/-- the row's equation from the runs -/
theorem left_cut {p q : Program} {loose : List PySem.Str} {Xt : Shared → Bool} {H : Hook} {ob : SharedT → H.α} {N M lo kF : Nat} {an : Option Value} {F : Params → List Obj} (ho : ∀ S : SharedT, ob S = H.obs S.abs)
    (e : opening p = plainProg p.main.scope.names) (hN : Nat.ble 600 N = true) (f : ∀ s, fenceModules? p s = some s) (le : Nat.ble M N = true)
    (size : ∀ w : World, ((boot_heap w.params).isNs mainGlobals && (#[] : Array GenState).size == 0, (boot_heap w.params).objs.size, (boot_heap w.params).nsMap mainGlobals "__annotations__") = (true, lo, an))
    (tre : ∀ w : World, (putAll (boot_heap w.params).objs.toList .nil 0).isSome = true)
    (run : ∀ (w : World) (os : OsState), topRun treeTable p w lo an M (stL w (boot_heap w.params).objs.toList boot_toks os).abs (topStub p) = some (stL w (F w.params) kF os).abs)
    (looks : ∀ (w : World) (os : OsState), (fun S : SharedT => (looksF p (boot_heap w.params) S.abs, seenQ q loose (importedModules p.main.body) Xt S.abs, ob S)) (stL w (F w.params) kF os) = (true, openGood q loose, H.val w)) :
    LeftO p q loose Xt H.obs H.val N true := by
  refine LeftO.of_pieces (H₀ := boot_heap) (H₁ := fun P => hpL P (F P)) (gs₀ := #[]) (gs₁ := #[]) (d₀ := boot_drawn) (d₁ := boot_drawn) (k₀ := boot_toks) (k₁ := kF) (boot_open e hN f) size (fun w os => ?_) le (fun w => ?_)
  · obtain ⟨⟨t, n⟩, ht⟩ := Option.isSome_iff_exists.mp (tre w)
    have z := run w os
    rw [boot_abs w os ht, stL_abs] at z
    exact z
  · funext os
    have z := looks w os
    obtain ⟨z1, z2, z3⟩ : _ ∧ _ ∧ _ := by simpa only [Prod.mk.injEq] using z
    have ab := stL_abs w (F w.params) kF os
    rw [← seenQ_eq, ab] at z2
    rw [ab] at z1
    rw [ho, ab] at z3
    exact Prod.ext z1 (Prod.ext z2 z3)
theorem obK {as : List Addr} (S : SharedT) : as.map (getT S) = as.map S.abs.heap.get? := List.map_congr_left fun a _ => getT_eq S a
end HC
end
set_option maxHeartbeats 0
noncomputable section
namespace HX
open PySem PySem.W PySem.Calls PyProof.Rows HeadRun HC L2
abbrev S := PySem.Str.ofString
abbrev V (l : List Value) : Array Value := l.toArray
abbrev W (l : List (Option Value)) : Array (Option Value) := l.toArray
abbrev D (l : List DictEntry) : Array DictEntry := l.toArray
abbrev E (P : Params) (x : PySem.Str) (k : Tok) (v : Value) : DictEntry := ⟨PyData.keyHash P x, .str x k, v⟩
abbrev pw : Program := PySem.Challenge.pw_nearcall_k31_how_many_steps
abbrev rw_ : OpenLaw := PySem.Challenge.rw_nearcall_k31_how_many_steps
abbrev ST (i : Nat) : Stmt := pw.main.body.getD i (.Pass ⟨0, 0, 0, 0⟩)
def lv : List (PySem.Str × WData) := []
def o0 (P : Params) : Obj := ⟨(.type "tuple"), none, (.seq (V []) 0), (W [])⟩
def o1 (P : Params) : Obj := ⟨.none, none, (.fields (V [])), (W [])⟩
def o2 (P : Params) : Obj := ⟨(.type "code"), none, (.fields (V [(.str (S "<module>") 182), (.str (S "<module>") 183), (.str (S "/claim/cut.py") 184), (.int 1 0), (.int 0 0), (.int 0 0), (.int 0 0), (.int 0 0), (.ref 11), (.bool false), (.int 181 0), (.ref 12), .none, .none, .none, .none, (.int 185 0), (.int 1 0), (.str (S "/claim/cut.py") 186)])), (W [])⟩
def o3 (P : Params) : Obj := ⟨(.type "frame"), none, .plain, (W [(some (.ref 13)), (some (.ref 3)), (some (.ref 3)), none, (some (.str (S "__main__") 164)), none, (some (.ref 0))])⟩
def objs_a (P : Params) : List Obj :=
  [boot_o_0 P, boot_o_1 P, boot_o_2 P, boot_o_3 P, boot_o_4 P, boot_o_5 P, boot_o_6 P, boot_o_7 P, boot_o_8 P, boot_o_9 P, boot_o_10 P, o0 P, o1 P, o2 P, o3 P]
def objs_b (P : Params) : List Obj :=
  [boot_o_0 P, boot_o_1 P, boot_o_2 P, boot_o_3 P, boot_o_4 P, boot_o_5 P, boot_o_6 P, boot_o_7 P, boot_o_8 P, boot_o_9 P, boot_o_10 P, o0 P, o1 P, o2 P, o3 P]
def o4 (P : Params) : Obj := ⟨(.type "dict"), none, (.dict (D [E P (S "__name__") 165 (.str (S "nearcall.errors") 187), E P (S "__doc__") 166 .none, E P (S "__package__") 167 .none, E P (S "__loader__") 168 (.builtin "__main__.__loader__#opaque"), E P (S "__spec__") 169 .none, E P (S "__annotations__") 170 (.ref 6), E P (S "__builtins__") 171 (.ref 4), E P (S "__file__") 173 (.str (S "/claim/cut.py") 172), E P (S "__cached__") 174 .none, E P (S "HallError") 215 (.ref 31), E P (S "BadTree") 238 (.ref 51), E P (S "Ring") 263 (.ref 70), E P (S "TooMany") 288 (.ref 89)]) 13), (W [])⟩
def o5 (P : Params) : Obj := ⟨.none, none, (.fields (V [(.int 2 0), (.int 0 0), (.ref 20), (.int 7 0), (.int 0 0), (.ref 40), (.int 11 0), (.int 0 0), (.ref 59), (.int 16 0), (.int 0 0), (.ref 78)])), (W [])⟩
def o6 (P : Params) : Obj := ⟨(.type "tuple"), none, (.seq (V [(.type "ValueError")]) 0), (W [])⟩
def o7 (P : Params) : Obj := ⟨(.type "builtin_function_or_method"), none, (.fields (V [(.builtin "type.__prepare__"), (.type "type")])), (W [])⟩
def o8 (P : Params) : Obj := ⟨(.type "dict"), none, (.dict (D [E P (S "__module__") 196 (.str (S "nearcall.errors") 187), E P (S "__qualname__") 198 (.str (S "HallError") 197), E P (S "__firstlineno__") 200 (.int 2 199), E P (S "__init__") 208 (.ref 28), E P (S "__static_attributes__") 210 (.ref 29)]) 5), (W [])⟩
def o9 (P : Params) : Obj := ⟨(.type "tuple"), none, (.seq (V []) 0), (W [])⟩
def o10 (P : Params) : Obj := ⟨.none, none, (.fields (V [(.int 4 0), (.int 4 0), (.ref 27)])), (W [])⟩
def o11 (P : Params) : Obj := ⟨(.type "code"), none, (.fields (V [(.str (S "HallError") 191), (.str (S "HallError") 192), (.str (S "/claim/cut.py") 193), (.int 2 0), (.int 0 0), (.int 0 0), (.int 0 0), (.int 0 0), (.ref 18), (.bool false), (.int 181 0), (.ref 19), .none, .none, .none, .none, (.int 194 0), (.int 2 0), (.str (S "/claim/cut.py") 195)])), (W [])⟩
def o12 (P : Params) : Obj := ⟨(.type "frame"), none, .plain, (W [(some (.ref 20)), (some (.ref 3)), (some (.ref 17)), none, (some (.str (S "nearcall.errors") 187)), none, (some (.ref 0))])⟩
def o13 (P : Params) : Obj := ⟨(.type "tuple"), none, (.seq (V []) 0), (W [])⟩
def o14 (P : Params) : Obj := ⟨.none, none, (.fields (V [])), (W [])⟩
def o15 (P : Params) : Obj := ⟨(.type "tuple"), none, (.seq (V [(.str (S "self") 204), (.str (S "word") 205)]) 0), (W [])⟩
def o16 (P : Params) : Obj := ⟨(.type "tuple"), none, (.seq (V []) 0), (W [])⟩
def o17 (P : Params) : Obj := ⟨.none, none, (.func ⟨(S "__init__"), (S "HallError.__init__"), (defArgs (inClass (ST 1) 0)), (.stmts (defBody (inClass (ST 1) 0))), (defScope (inClass (ST 1) 0)), 0, [], .none, .none, .none, .none, none, .none, .none, 0⟩), (W [])⟩
def o18 (P : Params) : Obj := ⟨(.type "code"), none, (.fields (V [(.str (S "__init__") 201), (.str (S "HallError.__init__") 202), (.str (S "/claim/cut.py") 203), (.int 4 0), (.int 2 0), (.int 0 0), (.int 0 0), (.int 3 0), (.ref 22), (.bool true), (.int 181 0), (.ref 23), .none, (.ref 24), (.ref 25), (.ref 26), (.int 206 0), (.int 4 0), (.str (S "/claim/cut.py") 207)])), (W [])⟩
def o19 (P : Params) : Obj := ⟨(.type "function"), none, (.func ⟨(S "__init__"), (S "HallError.__init__"), (defArgs (inClass (ST 1) 0)), (.stmts (defBody (inClass (ST 1) 0))), (defScope (inClass (ST 1) 0)), 3, [], .none, .none, .none, (.str (S "nearcall.errors") 187), none, (.ref 27), .none, 0⟩), (W [])⟩
def o20 (P : Params) : Obj := ⟨(.type "tuple"), none, (.seq (V [(.str (S "word") 209)]) 0), (W [])⟩
def o21 (P : Params) : Obj := ⟨(.type "dict"), none, (.dict (D [E P (S "__module__") 196 (.str (S "nearcall.errors") 187), E P (S "__firstlineno__") 200 (.int 2 199), E P (S "__init__") 208 (.ref 28), E P (S "__static_attributes__") 210 (.ref 29), E P (S "__weakref__") 212 (.ref 32), E P (S "__doc__") 213 .none]) 3), (W [])⟩
def o22 (P : Params) : Obj := ⟨(.type "type"), none, (.cls ⟨(S "HallError"), [(.type "ValueError")], [(.ref 31), (.type "ValueError"), (.type "Exception"), (.type "BaseException"), (.type "object")], 30, (S "HallError"), true, [], [(.ref 51), (.ref 70), (.ref 89)], false, none, false⟩), (W [(some (.ref 15)), none, (some (.str (S "HallError") 189)), (some (.str (S "HallError") 197)), (some (.builtin "ValueError.__new__")), (some (.bool true))])⟩
def o23 (P : Params) : Obj := ⟨(.type "getset_descriptor"), none, (.fields (V [(.str (S "__weakref__") 211), (.ref 31), (.builtin "ExceptionGroup.__weakref__"), .none])), (W [])⟩
def o24 (P : Params) : Obj := ⟨(.type "super"), none, (.fields (V [(.ref 31), (.ref 31), (.ref 31)])), (W [])⟩
def o25 (P : Params) : Obj := ⟨(.type "builtin_function_or_method"), none, (.fields (V [(.builtin "object.__init_subclass__"), (.ref 31)])), (W [])⟩
def o26 (P : Params) : Obj := ⟨(.type "tuple"), none, (.seq (V [(.ref 31)]) 0), (W [])⟩
def o27 (P : Params) : Obj := ⟨(.type "builtin_function_or_method"), none, (.fields (V [(.builtin "type.__prepare__"), (.type "type")])), (W [])⟩
def o28 (P : Params) : Obj := ⟨(.type "dict"), none, (.dict (D [E P (S "__module__") 223 (.str (S "nearcall.errors") 187), E P (S "__qualname__") 225 (.str (S "BadTree") 224), E P (S "__firstlineno__") 227 (.int 7 226), E P (S "__init__") 234 (.ref 48), E P (S "__static_attributes__") 235 (.ref 49)]) 5), (W [])⟩
def o29 (P : Params) : Obj := ⟨(.type "tuple"), none, (.seq (V []) 0), (W [])⟩
def o30 (P : Params) : Obj := ⟨.none, none, (.fields (V [(.int 9 0), (.int 4 0), (.ref 47)])), (W [])⟩
def o31 (P : Params) : Obj := ⟨(.type "code"), none, (.fields (V [(.str (S "BadTree") 218), (.str (S "BadTree") 219), (.str (S "/claim/cut.py") 220), (.int 7 0), (.int 0 0), (.int 0 0), (.int 0 0), (.int 0 0), (.ref 38), (.bool false), (.int 181 0), (.ref 39), .none, .none, .none, .none, (.int 221 0), (.int 7 0), (.str (S "/claim/cut.py") 222)])), (W [])⟩
def o32 (P : Params) : Obj := ⟨(.type "frame"), none, .plain, (W [(some (.ref 40)), (some (.ref 3)), (some (.ref 37)), none, (some (.str (S "nearcall.errors") 187)), none, (some (.ref 0))])⟩
def o33 (P : Params) : Obj := ⟨(.type "tuple"), none, (.seq (V []) 0), (W [])⟩
def o34 (P : Params) : Obj := ⟨.none, none, (.fields (V [])), (W [])⟩
def o35 (P : Params) : Obj := ⟨(.type "tuple"), none, (.seq (V [(.str (S "self") 231)]) 0), (W [])⟩
def o36 (P : Params) : Obj := ⟨(.type "tuple"), none, (.seq (V []) 0), (W [])⟩
def o37 (P : Params) : Obj := ⟨.none, none, (.func ⟨(S "__init__"), (S "BadTree.__init__"), (defArgs (inClass (ST 2) 0)), (.stmts (defBody (inClass (ST 2) 0))), (defScope (inClass (ST 2) 0)), 0, [], .none, .none, .none, .none, none, .none, .none, 0⟩), (W [])⟩
def o38 (P : Params) : Obj := ⟨(.type "code"), none, (.fields (V [(.str (S "__init__") 228), (.str (S "BadTree.__init__") 229), (.str (S "/claim/cut.py") 230), (.int 9 0), (.int 1 0), (.int 0 0), (.int 0 0), (.int 3 0), (.ref 42), (.bool true), (.int 181 0), (.ref 43), .none, (.ref 44), (.ref 45), (.ref 46), (.int 232 0), (.int 9 0), (.str (S "/claim/cut.py") 233)])), (W [])⟩
def o39 (P : Params) : Obj := ⟨(.type "function"), none, (.func ⟨(S "__init__"), (S "BadTree.__init__"), (defArgs (inClass (ST 2) 0)), (.stmts (defBody (inClass (ST 2) 0))), (defScope (inClass (ST 2) 0)), 3, [], .none, .none, .none, (.str (S "nearcall.errors") 187), none, (.ref 47), .none, 0⟩), (W [])⟩
def o40 (P : Params) : Obj := ⟨(.type "tuple"), none, (.seq (V []) 0), (W [])⟩
def o41 (P : Params) : Obj := ⟨(.type "dict"), none, (.dict (D [E P (S "__module__") 223 (.str (S "nearcall.errors") 187), E P (S "__firstlineno__") 227 (.int 7 226), E P (S "__init__") 234 (.ref 48), E P (S "__static_attributes__") 235 (.ref 49), E P (S "__doc__") 236 .none]) 2), (W [])⟩
def o42 (P : Params) : Obj := ⟨(.type "type"), none, (.cls ⟨(S "BadTree"), [(.ref 31)], [(.ref 51), (.ref 31), (.type "ValueError"), (.type "Exception"), (.type "BaseException"), (.type "object")], 50, (S "BadTree"), true, [], [], false, none, false⟩), (W [(some (.ref 35)), none, (some (.str (S "BadTree") 216)), (some (.str (S "BadTree") 224)), (some (.builtin "ValueError.__new__")), (some (.bool true))])⟩
def o43 (P : Params) : Obj := ⟨(.type "super"), none, (.fields (V [(.ref 51), (.ref 51), (.ref 51)])), (W [])⟩
def o44 (P : Params) : Obj := ⟨(.type "builtin_function_or_method"), none, (.fields (V [(.builtin "object.__init_subclass__"), (.ref 51)])), (W [])⟩
def o45 (P : Params) : Obj := ⟨(.type "tuple"), none, (.seq (V [(.ref 31)]) 0), (W [])⟩
def o46 (P : Params) : Obj := ⟨(.type "builtin_function_or_method"), none, (.fields (V [(.builtin "type.__prepare__"), (.type "type")])), (W [])⟩
def o47 (P : Params) : Obj := ⟨(.type "dict"), none, (.dict (D [E P (S "__module__") 246 (.str (S "nearcall.errors") 187), E P (S "__qualname__") 248 (.str (S "Ring") 247), E P (S "__firstlineno__") 250 (.int 11 249), E P (S "__init__") 258 (.ref 67), E P (S "__static_attributes__") 260 (.ref 68)]) 5), (W [])⟩
def o48 (P : Params) : Obj := ⟨(.type "tuple"), none, (.seq (V []) 0), (W [])⟩
def o49 (P : Params) : Obj := ⟨.none, none, (.fields (V [(.int 13 0), (.int 4 0), (.ref 66)])), (W [])⟩
def o50 (P : Params) : Obj := ⟨(.type "code"), none, (.fields (V [(.str (S "Ring") 241), (.str (S "Ring") 242), (.str (S "/claim/cut.py") 243), (.int 11 0), (.int 0 0), (.int 0 0), (.int 0 0), (.int 0 0), (.ref 57), (.bool false), (.int 181 0), (.ref 58), .none, .none, .none, .none, (.int 244 0), (.int 11 0), (.str (S "/claim/cut.py") 245)])), (W [])⟩
def o51 (P : Params) : Obj := ⟨(.type "frame"), none, .plain, (W [(some (.ref 59)), (some (.ref 3)), (some (.ref 56)), none, (some (.str (S "nearcall.errors") 187)), none, (some (.ref 0))])⟩
def o52 (P : Params) : Obj := ⟨(.type "tuple"), none, (.seq (V []) 0), (W [])⟩
def o53 (P : Params) : Obj := ⟨.none, none, (.fields (V [])), (W [])⟩
def o54 (P : Params) : Obj := ⟨(.type "tuple"), none, (.seq (V [(.str (S "self") 254), (.str (S "name") 255)]) 0), (W [])⟩
def o55 (P : Params) : Obj := ⟨(.type "tuple"), none, (.seq (V []) 0), (W [])⟩
def o56 (P : Params) : Obj := ⟨.none, none, (.func ⟨(S "__init__"), (S "Ring.__init__"), (defArgs (inClass (ST 3) 0)), (.stmts (defBody (inClass (ST 3) 0))), (defScope (inClass (ST 3) 0)), 0, [], .none, .none, .none, .none, none, .none, .none, 0⟩), (W [])⟩
def o57 (P : Params) : Obj := ⟨(.type "code"), none, (.fields (V [(.str (S "__init__") 251), (.str (S "Ring.__init__") 252), (.str (S "/claim/cut.py") 253), (.int 13 0), (.int 2 0), (.int 0 0), (.int 0 0), (.int 3 0), (.ref 61), (.bool true), (.int 181 0), (.ref 62), .none, (.ref 63), (.ref 64), (.ref 65), (.int 256 0), (.int 13 0), (.str (S "/claim/cut.py") 257)])), (W [])⟩
def o58 (P : Params) : Obj := ⟨(.type "function"), none, (.func ⟨(S "__init__"), (S "Ring.__init__"), (defArgs (inClass (ST 3) 0)), (.stmts (defBody (inClass (ST 3) 0))), (defScope (inClass (ST 3) 0)), 3, [], .none, .none, .none, (.str (S "nearcall.errors") 187), none, (.ref 66), .none, 0⟩), (W [])⟩
def o59 (P : Params) : Obj := ⟨(.type "tuple"), none, (.seq (V [(.str (S "name") 259)]) 0), (W [])⟩
def o60 (P : Params) : Obj := ⟨(.type "dict"), none, (.dict (D [E P (S "__module__") 246 (.str (S "nearcall.errors") 187), E P (S "__firstlineno__") 250 (.int 11 249), E P (S "__init__") 258 (.ref 67), E P (S "__static_attributes__") 260 (.ref 68), E P (S "__doc__") 261 .none]) 2), (W [])⟩
def o61 (P : Params) : Obj := ⟨(.type "type"), none, (.cls ⟨(S "Ring"), [(.ref 31)], [(.ref 70), (.ref 31), (.type "ValueError"), (.type "Exception"), (.type "BaseException"), (.type "object")], 69, (S "Ring"), true, [], [], false, none, false⟩), (W [(some (.ref 54)), none, (some (.str (S "Ring") 239)), (some (.str (S "Ring") 247)), (some (.builtin "ValueError.__new__")), (some (.bool true))])⟩
def o62 (P : Params) : Obj := ⟨(.type "super"), none, (.fields (V [(.ref 70), (.ref 70), (.ref 70)])), (W [])⟩
def o63 (P : Params) : Obj := ⟨(.type "builtin_function_or_method"), none, (.fields (V [(.builtin "object.__init_subclass__"), (.ref 70)])), (W [])⟩
def o64 (P : Params) : Obj := ⟨(.type "tuple"), none, (.seq (V [(.ref 31)]) 0), (W [])⟩
def o65 (P : Params) : Obj := ⟨(.type "builtin_function_or_method"), none, (.fields (V [(.builtin "type.__prepare__"), (.type "type")])), (W [])⟩
def o66 (P : Params) : Obj := ⟨(.type "dict"), none, (.dict (D [E P (S "__module__") 271 (.str (S "nearcall.errors") 187), E P (S "__qualname__") 273 (.str (S "TooMany") 272), E P (S "__firstlineno__") 275 (.int 16 274), E P (S "__init__") 283 (.ref 86), E P (S "__static_attributes__") 285 (.ref 87)]) 5), (W [])⟩
def o67 (P : Params) : Obj := ⟨(.type "tuple"), none, (.seq (V []) 0), (W [])⟩
def o68 (P : Params) : Obj := ⟨.none, none, (.fields (V [(.int 18 0), (.int 4 0), (.ref 85)])), (W [])⟩
def o69 (P : Params) : Obj := ⟨(.type "code"), none, (.fields (V [(.str (S "TooMany") 266), (.str (S "TooMany") 267), (.str (S "/claim/cut.py") 268), (.int 16 0), (.int 0 0), (.int 0 0), (.int 0 0), (.int 0 0), (.ref 76), (.bool false), (.int 181 0), (.ref 77), .none, .none, .none, .none, (.int 269 0), (.int 16 0), (.str (S "/claim/cut.py") 270)])), (W [])⟩
def o70 (P : Params) : Obj := ⟨(.type "frame"), none, .plain, (W [(some (.ref 78)), (some (.ref 3)), (some (.ref 75)), none, (some (.str (S "nearcall.errors") 187)), none, (some (.ref 0))])⟩
def o71 (P : Params) : Obj := ⟨(.type "tuple"), none, (.seq (V []) 0), (W [])⟩
def o72 (P : Params) : Obj := ⟨.none, none, (.fields (V [])), (W [])⟩
def o73 (P : Params) : Obj := ⟨(.type "tuple"), none, (.seq (V [(.str (S "self") 279), (.str (S "most") 280)]) 0), (W [])⟩
def o74 (P : Params) : Obj := ⟨(.type "tuple"), none, (.seq (V []) 0), (W [])⟩
def o75 (P : Params) : Obj := ⟨.none, none, (.func ⟨(S "__init__"), (S "TooMany.__init__"), (defArgs (inClass (ST 4) 0)), (.stmts (defBody (inClass (ST 4) 0))), (defScope (inClass (ST 4) 0)), 0, [], .none, .none, .none, .none, none, .none, .none, 0⟩), (W [])⟩
def o76 (P : Params) : Obj := ⟨(.type "code"), none, (.fields (V [(.str (S "__init__") 276), (.str (S "TooMany.__init__") 277), (.str (S "/claim/cut.py") 278), (.int 18 0), (.int 2 0), (.int 0 0), (.int 0 0), (.int 3 0), (.ref 80), (.bool true), (.int 181 0), (.ref 81), .none, (.ref 82), (.ref 83), (.ref 84), (.int 281 0), (.int 18 0), (.str (S "/claim/cut.py") 282)])), (W [])⟩
def o77 (P : Params) : Obj := ⟨(.type "function"), none, (.func ⟨(S "__init__"), (S "TooMany.__init__"), (defArgs (inClass (ST 4) 0)), (.stmts (defBody (inClass (ST 4) 0))), (defScope (inClass (ST 4) 0)), 3, [], .none, .none, .none, (.str (S "nearcall.errors") 187), none, (.ref 85), .none, 0⟩), (W [])⟩
def o78 (P : Params) : Obj := ⟨(.type "tuple"), none, (.seq (V [(.str (S "most") 284)]) 0), (W [])⟩
def o79 (P : Params) : Obj := ⟨(.type "dict"), none, (.dict (D [E P (S "__module__") 271 (.str (S "nearcall.errors") 187), E P (S "__firstlineno__") 275 (.int 16 274), E P (S "__init__") 283 (.ref 86), E P (S "__static_attributes__") 285 (.ref 87), E P (S "__doc__") 286 .none]) 2), (W [])⟩
def o80 (P : Params) : Obj := ⟨(.type "type"), none, (.cls ⟨(S "TooMany"), [(.ref 31)], [(.ref 89), (.ref 31), (.type "ValueError"), (.type "Exception"), (.type "BaseException"), (.type "object")], 88, (S "TooMany"), true, [], [], false, none, false⟩), (W [(some (.ref 73)), none, (some (.str (S "TooMany") 264)), (some (.str (S "TooMany") 272)), (some (.builtin "ValueError.__new__")), (some (.bool true))])⟩
def o81 (P : Params) : Obj := ⟨(.type "super"), none, (.fields (V [(.ref 89), (.ref 89), (.ref 89)])), (W [])⟩
def o82 (P : Params) : Obj := ⟨(.type "builtin_function_or_method"), none, (.fields (V [(.builtin "object.__init_subclass__"), (.ref 89)])), (W [])⟩
def objs_0 (P : Params) : List Obj :=
  [boot_o_0 P, boot_o_1 P, boot_o_2 P, o4 P, boot_o_4 P, boot_o_5 P, boot_o_6 P, boot_o_7 P, boot_o_8 P, boot_o_9 P, boot_o_10 P, o0 P, o5 P, o2 P, o3 P, o6 P, o7 P, o8 P, o9 P, o10 P, o11 P, o12 P, o13 P, o14 P, o15 P, o16 P, o17 P, o18 P, o19 P, o20 P, o21 P, o22 P, o23 P, o24 P, o25 P, o26 P, o27 P, o28 P, o29 P, o30 P] ++ (
  [o31 P, o32 P, o33 P, o34 P, o35 P, o36 P, o37 P, o38 P, o39 P, o40 P, o41 P, o42 P, o43 P, o44 P, o45 P, o46 P, o47 P, o48 P, o49 P, o50 P, o51 P, o52 P, o53 P, o54 P, o55 P, o56 P, o57 P, o58 P, o59 P, o60 P, o61 P, o62 P, o63 P, o64 P, o65 P, o66 P, o67 P, o68 P, o69 P, o70 P] ++ (
  [o71 P, o72 P, o73 P, o74 P, o75 P, o76 P, o77 P, o78 P, o79 P, o80 P, o81 P, o82 P]))
def o83 (P : Params) : Obj := ⟨(.type "dict"), none, (.dict (D [E P (S "__name__") 165 (.str (S "nearcall.making") 435), E P (S "__doc__") 166 .none, E P (S "__package__") 167 .none, E P (S "__loader__") 168 (.builtin "__main__.__loader__#opaque"), E P (S "__spec__") 169 .none, E P (S "__annotations__") 170 (.ref 6), E P (S "__builtins__") 171 (.ref 4), E P (S "__file__") 173 (.str (S "/claim/cut.py") 172), E P (S "__cached__") 174 .none, E P (S "HallError") 215 (.ref 31), E P (S "BadTree") 238 (.ref 51), E P (S "Ring") 263 (.ref 70), E P (S "TooMany") 288 (.ref 89), E P (S "Missing") 315 (.ref 108), E P (S "NoRow") 340 (.ref 128), E P (S "MOST_STEPS") 344 (.int 60 343), E P (S "MOST_DEEP") 346 (.int 12 345), E P (S "MOST_TIMES") 350 (.int 1000000000000000000000000000000 349), E P (S "MOST_SIDES") 352 (.int 12 351), E P (S "LONGEST_NAME") 354 (.int 8 353), E P (S "SMALL") 356 (.str (S "abcdefghijklmnopqrstuvwxyz") 355), E P (S "LETTERS") 358 (.str (S "abcdefghijklmnopqrstuvwxyzABCDEFGHIJKLMNOPQRSTUVWXYZ") 357), E P (S "is_word") 364 (.ref 135), E P (S "is_name") 371 (.ref 142), E P (S "is_number") 379 (.ref 149), E P (S "is_tuple_of") 387 (.ref 156), E P (S "is_plain_step") 394 (.ref 163), E P (S "is_group_head") 401 (.ref 170), E P (S "left_behind_step") 410 (.ref 177), E P (S "left_behind") 420 (.ref 184), E P (S "is_row") 427 (.ref 191), E P (S "check_row") 434 (.ref 198), E P (S "MOST_DONE") 440 (.int 1000000000000000000000000000000000000000000000000000000000000 439), E P (S "MOST_LISTED") 442 (.int 400 441)]) 34), (W [])⟩
def o84 (P : Params) : Obj := ⟨.none, none, (.fields (V [(.int 2 0), (.int 0 0), (.ref 20), (.int 7 0), (.int 0 0), (.ref 40), (.int 11 0), (.int 0 0), (.ref 59), (.int 16 0), (.int 0 0), (.ref 78), (.int 21 0), (.int 0 0), (.ref 97), (.int 26 0), (.int 0 0), (.ref 117), (.int 39 0), (.int 0 0), (.ref 134), (.int 43 0), (.int 0 0), (.ref 141), (.int 45 0), (.int 0 0), (.ref 148), (.int 49 0), (.int 0 0), (.ref 155), (.int 51 0), (.int 0 0), (.ref 162), (.int 59 0), (.int 0 0), (.ref 169), (.int 61 0), (.int 0 0), (.ref 176), (.int 67 0), (.int 0 0), (.ref 183), (.int 75 0), (.int 0 0), (.ref 190), (.int 77 0), (.int 0 0), (.ref 197)])), (W [])⟩
def o85 (P : Params) : Obj := ⟨(.type "tuple"), none, (.seq (V [(.type "LookupError")]) 0), (W [])⟩
def o86 (P : Params) : Obj := ⟨(.type "builtin_function_or_method"), none, (.fields (V [(.builtin "type.__prepare__"), (.type "type")])), (W [])⟩
def o87 (P : Params) : Obj := ⟨(.type "dict"), none, (.dict (D [E P (S "__module__") 296 (.str (S "nearcall.errors") 187), E P (S "__qualname__") 298 (.str (S "Missing") 297), E P (S "__firstlineno__") 300 (.int 21 299), E P (S "__init__") 308 (.ref 105), E P (S "__static_attributes__") 310 (.ref 106)]) 5), (W [])⟩
def o88 (P : Params) : Obj := ⟨(.type "tuple"), none, (.seq (V []) 0), (W [])⟩
def o89 (P : Params) : Obj := ⟨.none, none, (.fields (V [(.int 23 0), (.int 4 0), (.ref 104)])), (W [])⟩
def o90 (P : Params) : Obj := ⟨(.type "code"), none, (.fields (V [(.str (S "Missing") 291), (.str (S "Missing") 292), (.str (S "/claim/cut.py") 293), (.int 21 0), (.int 0 0), (.int 0 0), (.int 0 0), (.int 0 0), (.ref 95), (.bool false), (.int 181 0), (.ref 96), .none, .none, .none, .none, (.int 294 0), (.int 21 0), (.str (S "/claim/cut.py") 295)])), (W [])⟩
def o91 (P : Params) : Obj := ⟨(.type "frame"), none, .plain, (W [(some (.ref 97)), (some (.ref 3)), (some (.ref 94)), none, (some (.str (S "nearcall.errors") 187)), none, (some (.ref 0))])⟩
def o92 (P : Params) : Obj := ⟨(.type "tuple"), none, (.seq (V []) 0), (W [])⟩
def o93 (P : Params) : Obj := ⟨.none, none, (.fields (V [])), (W [])⟩
def o94 (P : Params) : Obj := ⟨(.type "tuple"), none, (.seq (V [(.str (S "self") 304), (.str (S "word") 305)]) 0), (W [])⟩
def o95 (P : Params) : Obj := ⟨(.type "tuple"), none, (.seq (V []) 0), (W [])⟩
def o96 (P : Params) : Obj := ⟨.none, none, (.func ⟨(S "__init__"), (S "Missing.__init__"), (defArgs (inClass (ST 5) 0)), (.stmts (defBody (inClass (ST 5) 0))), (defScope (inClass (ST 5) 0)), 0, [], .none, .none, .none, .none, none, .none, .none, 0⟩), (W [])⟩
def o97 (P : Params) : Obj := ⟨(.type "code"), none, (.fields (V [(.str (S "__init__") 301), (.str (S "Missing.__init__") 302), (.str (S "/claim/cut.py") 303), (.int 23 0), (.int 2 0), (.int 0 0), (.int 0 0), (.int 3 0), (.ref 99), (.bool true), (.int 181 0), (.ref 100), .none, (.ref 101), (.ref 102), (.ref 103), (.int 306 0), (.int 23 0), (.str (S "/claim/cut.py") 307)])), (W [])⟩
def o98 (P : Params) : Obj := ⟨(.type "function"), none, (.func ⟨(S "__init__"), (S "Missing.__init__"), (defArgs (inClass (ST 5) 0)), (.stmts (defBody (inClass (ST 5) 0))), (defScope (inClass (ST 5) 0)), 3, [], .none, .none, .none, (.str (S "nearcall.errors") 187), none, (.ref 104), .none, 0⟩), (W [])⟩
def o99 (P : Params) : Obj := ⟨(.type "tuple"), none, (.seq (V [(.str (S "word") 309)]) 0), (W [])⟩
def o100 (P : Params) : Obj := ⟨(.type "dict"), none, (.dict (D [E P (S "__module__") 296 (.str (S "nearcall.errors") 187), E P (S "__firstlineno__") 300 (.int 21 299), E P (S "__init__") 308 (.ref 105), E P (S "__static_attributes__") 310 (.ref 106), E P (S "__weakref__") 312 (.ref 109), E P (S "__doc__") 313 .none]) 3), (W [])⟩
def o101 (P : Params) : Obj := ⟨(.type "type"), none, (.cls ⟨(S "Missing"), [(.type "LookupError")], [(.ref 108), (.type "LookupError"), (.type "Exception"), (.type "BaseException"), (.type "object")], 107, (S "Missing"), true, [], [(.ref 128)], false, none, false⟩), (W [(some (.ref 92)), none, (some (.str (S "Missing") 289)), (some (.str (S "Missing") 297)), (some (.builtin "LookupError.__new__")), (some (.bool true))])⟩
def o102 (P : Params) : Obj := ⟨(.type "getset_descriptor"), none, (.fields (V [(.str (S "__weakref__") 311), (.ref 108), (.builtin "ExceptionGroup.__weakref__"), .none])), (W [])⟩
def o103 (P : Params) : Obj := ⟨(.type "super"), none, (.fields (V [(.ref 108), (.ref 108), (.ref 108)])), (W [])⟩
def o104 (P : Params) : Obj := ⟨(.type "builtin_function_or_method"), none, (.fields (V [(.builtin "object.__init_subclass__"), (.ref 108)])), (W [])⟩
def o105 (P : Params) : Obj := ⟨(.type "tuple"), none, (.seq (V [(.ref 108)]) 0), (W [])⟩
def o106 (P : Params) : Obj := ⟨(.type "builtin_function_or_method"), none, (.fields (V [(.builtin "type.__prepare__"), (.type "type")])), (W [])⟩
def o107 (P : Params) : Obj := ⟨(.type "dict"), none, (.dict (D [E P (S "__module__") 323 (.str (S "nearcall.errors") 187), E P (S "__qualname__") 325 (.str (S "NoRow") 324), E P (S "__firstlineno__") 327 (.int 26 326), E P (S "__init__") 335 (.ref 125), E P (S "__static_attributes__") 337 (.ref 126)]) 5), (W [])⟩
def o108 (P : Params) : Obj := ⟨(.type "tuple"), none, (.seq (V []) 0), (W [])⟩
def o109 (P : Params) : Obj := ⟨.none, none, (.fields (V [(.int 28 0), (.int 4 0), (.ref 124)])), (W [])⟩
def o110 (P : Params) : Obj := ⟨(.type "code"), none, (.fields (V [(.str (S "NoRow") 318), (.str (S "NoRow") 319), (.str (S "/claim/cut.py") 320), (.int 26 0), (.int 0 0), (.int 0 0), (.int 0 0), (.int 0 0), (.ref 115), (.bool false), (.int 181 0), (.ref 116), .none, .none, .none, .none, (.int 321 0), (.int 26 0), (.str (S "/claim/cut.py") 322)])), (W [])⟩
def o111 (P : Params) : Obj := ⟨(.type "frame"), none, .plain, (W [(some (.ref 117)), (some (.ref 3)), (some (.ref 114)), none, (some (.str (S "nearcall.errors") 187)), none, (some (.ref 0))])⟩
def o112 (P : Params) : Obj := ⟨(.type "tuple"), none, (.seq (V []) 0), (W [])⟩
def o113 (P : Params) : Obj := ⟨.none, none, (.fields (V [])), (W [])⟩
def o114 (P : Params) : Obj := ⟨(.type "tuple"), none, (.seq (V [(.str (S "self") 331), (.str (S "name") 332)]) 0), (W [])⟩
def o115 (P : Params) : Obj := ⟨(.type "tuple"), none, (.seq (V []) 0), (W [])⟩
def o116 (P : Params) : Obj := ⟨.none, none, (.func ⟨(S "__init__"), (S "NoRow.__init__"), (defArgs (inClass (ST 6) 0)), (.stmts (defBody (inClass (ST 6) 0))), (defScope (inClass (ST 6) 0)), 0, [], .none, .none, .none, .none, none, .none, .none, 0⟩), (W [])⟩
def o117 (P : Params) : Obj := ⟨(.type "code"), none, (.fields (V [(.str (S "__init__") 328), (.str (S "NoRow.__init__") 329), (.str (S "/claim/cut.py") 330), (.int 28 0), (.int 2 0), (.int 0 0), (.int 0 0), (.int 3 0), (.ref 119), (.bool true), (.int 181 0), (.ref 120), .none, (.ref 121), (.ref 122), (.ref 123), (.int 333 0), (.int 28 0), (.str (S "/claim/cut.py") 334)])), (W [])⟩
def o118 (P : Params) : Obj := ⟨(.type "function"), none, (.func ⟨(S "__init__"), (S "NoRow.__init__"), (defArgs (inClass (ST 6) 0)), (.stmts (defBody (inClass (ST 6) 0))), (defScope (inClass (ST 6) 0)), 3, [], .none, .none, .none, (.str (S "nearcall.errors") 187), none, (.ref 124), .none, 0⟩), (W [])⟩
def o119 (P : Params) : Obj := ⟨(.type "tuple"), none, (.seq (V [(.str (S "name") 336)]) 0), (W [])⟩
def o120 (P : Params) : Obj := ⟨(.type "dict"), none, (.dict (D [E P (S "__module__") 323 (.str (S "nearcall.errors") 187), E P (S "__firstlineno__") 327 (.int 26 326), E P (S "__init__") 335 (.ref 125), E P (S "__static_attributes__") 337 (.ref 126), E P (S "__doc__") 338 .none]) 2), (W [])⟩
def o121 (P : Params) : Obj := ⟨(.type "type"), none, (.cls ⟨(S "NoRow"), [(.ref 108)], [(.ref 128), (.ref 108), (.type "LookupError"), (.type "Exception"), (.type "BaseException"), (.type "object")], 127, (S "NoRow"), true, [], [], false, none, false⟩), (W [(some (.ref 112)), none, (some (.str (S "NoRow") 316)), (some (.str (S "NoRow") 324)), (some (.builtin "LookupError.__new__")), (some (.bool true))])⟩
def o122 (P : Params) : Obj := ⟨(.type "super"), none, (.fields (V [(.ref 128), (.ref 128), (.ref 128)])), (W [])⟩
def o123 (P : Params) : Obj := ⟨(.type "builtin_function_or_method"), none, (.fields (V [(.builtin "object.__init_subclass__"), (.ref 128)])), (W [])⟩
def o124 (P : Params) : Obj := ⟨(.type "tuple"), none, (.seq (V []) 0), (W [])⟩
def o125 (P : Params) : Obj := ⟨.none, none, (.fields (V [])), (W [])⟩
def o126 (P : Params) : Obj := ⟨.none, none, (.func ⟨(S "is_word"), (S "is_word"), (defArgs (ST 15)), (.stmts (defBody (ST 15))), (defScope (ST 15)), 0, [], .none, .none, .none, .none, none, .none, .none, 0⟩), (W [])⟩
def o127 (P : Params) : Obj := ⟨(.type "code"), none, (.fields (V [(.str (S "is_word") 359), (.str (S "is_word") 360), (.str (S "/claim/cut.py") 361), (.int 39 0), (.int 4 0), (.int 0 0), (.int 0 0), (.int 3 0), (.ref 131), (.bool true), (.int 181 0), (.ref 132), .none, .none, .none, (.ref 133), (.int 362 0), (.int 39 0), (.str (S "/claim/cut.py") 363)])), (W [])⟩
def o128 (P : Params) : Obj := ⟨(.type "function"), none, (.func ⟨(S "is_word"), (S "is_word"), (defArgs (ST 15)), (.stmts (defBody (ST 15))), (defScope (ST 15)), 3, [], .none, .none, .none, (.str (S "nearcall.rows") 341), none, (.ref 134), .none, 0⟩), (W [])⟩
def o129 (P : Params) : Obj := ⟨(.type "tuple"), none, (.seq (V []) 0), (W [])⟩
def o130 (P : Params) : Obj := ⟨.none, none, (.fields (V [])), (W [])⟩
def o131 (P : Params) : Obj := ⟨(.type "tuple"), none, (.seq (V [(.str (S "thing") 368)]) 0), (W [])⟩
def o132 (P : Params) : Obj := ⟨(.type "tuple"), none, (.seq (V []) 0), (W [])⟩
def o133 (P : Params) : Obj := ⟨.none, none, (.func ⟨(S "is_name"), (S "is_name"), (defArgs (ST 16)), (.stmts (defBody (ST 16))), (defScope (ST 16)), 0, [], .none, .none, .none, .none, none, .none, .none, 0⟩), (W [])⟩
def o134 (P : Params) : Obj := ⟨(.type "code"), none, (.fields (V [(.str (S "is_name") 365), (.str (S "is_name") 366), (.str (S "/claim/cut.py") 367), (.int 43 0), (.int 1 0), (.int 0 0), (.int 0 0), (.int 3 0), (.ref 136), (.bool true), (.int 181 0), (.ref 137), .none, (.ref 138), (.ref 139), (.ref 140), (.int 369 0), (.int 43 0), (.str (S "/claim/cut.py") 370)])), (W [])⟩
def o135 (P : Params) : Obj := ⟨(.type "function"), none, (.func ⟨(S "is_name"), (S "is_name"), (defArgs (ST 16)), (.stmts (defBody (ST 16))), (defScope (ST 16)), 3, [], .none, .none, .none, (.str (S "nearcall.rows") 341), none, (.ref 141), .none, 0⟩), (W [])⟩
def o136 (P : Params) : Obj := ⟨(.type "tuple"), none, (.seq (V []) 0), (W [])⟩
def o137 (P : Params) : Obj := ⟨.none, none, (.fields (V [])), (W [])⟩
def o138 (P : Params) : Obj := ⟨(.type "tuple"), none, (.seq (V [(.str (S "thing") 375), (.str (S "most") 376)]) 0), (W [])⟩
def o139 (P : Params) : Obj := ⟨(.type "tuple"), none, (.seq (V []) 0), (W [])⟩
def o140 (P : Params) : Obj := ⟨.none, none, (.func ⟨(S "is_number"), (S "is_number"), (defArgs (ST 17)), (.stmts (defBody (ST 17))), (defScope (ST 17)), 0, [], .none, .none, .none, .none, none, .none, .none, 0⟩), (W [])⟩
def o141 (P : Params) : Obj := ⟨(.type "code"), none, (.fields (V [(.str (S "is_number") 372), (.str (S "is_number") 373), (.str (S "/claim/cut.py") 374), (.int 45 0), (.int 2 0), (.int 0 0), (.int 0 0), (.int 3 0), (.ref 143), (.bool true), (.int 181 0), (.ref 144), .none, (.ref 145), (.ref 146), (.ref 147), (.int 377 0), (.int 45 0), (.str (S "/claim/cut.py") 378)])), (W [])⟩
def o142 (P : Params) : Obj := ⟨(.type "function"), none, (.func ⟨(S "is_number"), (S "is_number"), (defArgs (ST 17)), (.stmts (defBody (ST 17))), (defScope (ST 17)), 3, [], .none, .none, .none, (.str (S "nearcall.rows") 341), none, (.ref 148), .none, 0⟩), (W [])⟩
def o143 (P : Params) : Obj := ⟨(.type "tuple"), none, (.seq (V []) 0), (W [])⟩
def o144 (P : Params) : Obj := ⟨.none, none, (.fields (V [])), (W [])⟩
def o145 (P : Params) : Obj := ⟨(.type "tuple"), none, (.seq (V [(.str (S "thing") 383), (.str (S "many") 384)]) 0), (W [])⟩
def o146 (P : Params) : Obj := ⟨(.type "tuple"), none, (.seq (V []) 0), (W [])⟩
def o147 (P : Params) : Obj := ⟨.none, none, (.func ⟨(S "is_tuple_of"), (S "is_tuple_of"), (defArgs (ST 18)), (.stmts (defBody (ST 18))), (defScope (ST 18)), 0, [], .none, .none, .none, .none, none, .none, .none, 0⟩), (W [])⟩
def o148 (P : Params) : Obj := ⟨(.type "code"), none, (.fields (V [(.str (S "is_tuple_of") 380), (.str (S "is_tuple_of") 381), (.str (S "/claim/cut.py") 382), (.int 49 0), (.int 2 0), (.int 0 0), (.int 0 0), (.int 3 0), (.ref 150), (.bool true), (.int 181 0), (.ref 151), .none, (.ref 152), (.ref 153), (.ref 154), (.int 385 0), (.int 49 0), (.str (S "/claim/cut.py") 386)])), (W [])⟩
def o149 (P : Params) : Obj := ⟨(.type "function"), none, (.func ⟨(S "is_tuple_of"), (S "is_tuple_of"), (defArgs (ST 18)), (.stmts (defBody (ST 18))), (defScope (ST 18)), 3, [], .none, .none, .none, (.str (S "nearcall.rows") 341), none, (.ref 155), .none, 0⟩), (W [])⟩
def o150 (P : Params) : Obj := ⟨(.type "tuple"), none, (.seq (V []) 0), (W [])⟩
def o151 (P : Params) : Obj := ⟨.none, none, (.fields (V [])), (W [])⟩
def o152 (P : Params) : Obj := ⟨(.type "tuple"), none, (.seq (V [(.str (S "step") 391)]) 0), (W [])⟩
def o153 (P : Params) : Obj := ⟨(.type "tuple"), none, (.seq (V []) 0), (W [])⟩
def o154 (P : Params) : Obj := ⟨.none, none, (.func ⟨(S "is_plain_step"), (S "is_plain_step"), (defArgs (ST 19)), (.stmts (defBody (ST 19))), (defScope (ST 19)), 0, [], .none, .none, .none, .none, none, .none, .none, 0⟩), (W [])⟩
def o155 (P : Params) : Obj := ⟨(.type "code"), none, (.fields (V [(.str (S "is_plain_step") 388), (.str (S "is_plain_step") 389), (.str (S "/claim/cut.py") 390), (.int 51 0), (.int 1 0), (.int 0 0), (.int 0 0), (.int 3 0), (.ref 157), (.bool true), (.int 181 0), (.ref 158), .none, (.ref 159), (.ref 160), (.ref 161), (.int 392 0), (.int 51 0), (.str (S "/claim/cut.py") 393)])), (W [])⟩
def o156 (P : Params) : Obj := ⟨(.type "function"), none, (.func ⟨(S "is_plain_step"), (S "is_plain_step"), (defArgs (ST 19)), (.stmts (defBody (ST 19))), (defScope (ST 19)), 3, [], .none, .none, .none, (.str (S "nearcall.rows") 341), none, (.ref 162), .none, 0⟩), (W [])⟩
def o157 (P : Params) : Obj := ⟨(.type "tuple"), none, (.seq (V []) 0), (W [])⟩
def o158 (P : Params) : Obj := ⟨.none, none, (.fields (V [])), (W [])⟩
def o159 (P : Params) : Obj := ⟨(.type "tuple"), none, (.seq (V [(.str (S "step") 398)]) 0), (W [])⟩
def o160 (P : Params) : Obj := ⟨(.type "tuple"), none, (.seq (V []) 0), (W [])⟩
def o161 (P : Params) : Obj := ⟨.none, none, (.func ⟨(S "is_group_head"), (S "is_group_head"), (defArgs (ST 20)), (.stmts (defBody (ST 20))), (defScope (ST 20)), 0, [], .none, .none, .none, .none, none, .none, .none, 0⟩), (W [])⟩
def o162 (P : Params) : Obj := ⟨(.type "code"), none, (.fields (V [(.str (S "is_group_head") 395), (.str (S "is_group_head") 396), (.str (S "/claim/cut.py") 397), (.int 59 0), (.int 1 0), (.int 0 0), (.int 0 0), (.int 3 0), (.ref 164), (.bool true), (.int 181 0), (.ref 165), .none, (.ref 166), (.ref 167), (.ref 168), (.int 399 0), (.int 59 0), (.str (S "/claim/cut.py") 400)])), (W [])⟩
def o163 (P : Params) : Obj := ⟨(.type "function"), none, (.func ⟨(S "is_group_head"), (S "is_group_head"), (defArgs (ST 20)), (.stmts (defBody (ST 20))), (defScope (ST 20)), 3, [], .none, .none, .none, (.str (S "nearcall.rows") 341), none, (.ref 169), .none, 0⟩), (W [])⟩
def o164 (P : Params) : Obj := ⟨(.type "tuple"), none, (.seq (V []) 0), (W [])⟩
def o165 (P : Params) : Obj := ⟨.none, none, (.fields (V [])), (W [])⟩
def o166 (P : Params) : Obj := ⟨(.type "tuple"), none, (.seq (V [(.str (S "step") 405), (.str (S "deep") 406), (.str (S "left") 407)]) 0), (W [])⟩
def o167 (P : Params) : Obj := ⟨(.type "tuple"), none, (.seq (V []) 0), (W [])⟩
def o168 (P : Params) : Obj := ⟨.none, none, (.func ⟨(S "left_behind_step"), (S "left_behind_step"), (defArgs (ST 21)), (.stmts (defBody (ST 21))), (defScope (ST 21)), 0, [], .none, .none, .none, .none, none, .none, .none, 0⟩), (W [])⟩
def o169 (P : Params) : Obj := ⟨(.type "code"), none, (.fields (V [(.str (S "left_behind_step") 402), (.str (S "left_behind_step") 403), (.str (S "/claim/cut.py") 404), (.int 61 0), (.int 3 0), (.int 0 0), (.int 0 0), (.int 3 0), (.ref 171), (.bool true), (.int 181 0), (.ref 172), .none, (.ref 173), (.ref 174), (.ref 175), (.int 408 0), (.int 61 0), (.str (S "/claim/cut.py") 409)])), (W [])⟩
def o170 (P : Params) : Obj := ⟨(.type "function"), none, (.func ⟨(S "left_behind_step"), (S "left_behind_step"), (defArgs (ST 21)), (.stmts (defBody (ST 21))), (defScope (ST 21)), 3, [], .none, .none, .none, (.str (S "nearcall.rows") 341), none, (.ref 176), .none, 0⟩), (W [])⟩
def o171 (P : Params) : Obj := ⟨(.type "tuple"), none, (.seq (V []) 0), (W [])⟩
def o172 (P : Params) : Obj := ⟨.none, none, (.fields (V [])), (W [])⟩
def o173 (P : Params) : Obj := ⟨(.type "tuple"), none, (.seq (V [(.str (S "row") 414), (.str (S "deep") 415), (.str (S "left") 416), (.str (S "step") 417)]) 0), (W [])⟩
def o174 (P : Params) : Obj := ⟨(.type "tuple"), none, (.seq (V []) 0), (W [])⟩
def o175 (P : Params) : Obj := ⟨.none, none, (.func ⟨(S "left_behind"), (S "left_behind"), (defArgs (ST 22)), (.stmts (defBody (ST 22))), (defScope (ST 22)), 0, [], .none, .none, .none, .none, none, .none, .none, 0⟩), (W [])⟩
def o176 (P : Params) : Obj := ⟨(.type "code"), none, (.fields (V [(.str (S "left_behind") 411), (.str (S "left_behind") 412), (.str (S "/claim/cut.py") 413), (.int 67 0), (.int 3 0), (.int 0 0), (.int 0 0), (.int 3 0), (.ref 178), (.bool true), (.int 181 0), (.ref 179), .none, (.ref 180), (.ref 181), (.ref 182), (.int 418 0), (.int 67 0), (.str (S "/claim/cut.py") 419)])), (W [])⟩
def o177 (P : Params) : Obj := ⟨(.type "function"), none, (.func ⟨(S "left_behind"), (S "left_behind"), (defArgs (ST 22)), (.stmts (defBody (ST 22))), (defScope (ST 22)), 3, [], .none, .none, .none, (.str (S "nearcall.rows") 341), none, (.ref 183), .none, 0⟩), (W [])⟩
def o178 (P : Params) : Obj := ⟨(.type "tuple"), none, (.seq (V []) 0), (W [])⟩
def o179 (P : Params) : Obj := ⟨.none, none, (.fields (V [])), (W [])⟩
def o180 (P : Params) : Obj := ⟨(.type "tuple"), none, (.seq (V [(.str (S "tree") 424)]) 0), (W [])⟩
def o181 (P : Params) : Obj := ⟨(.type "tuple"), none, (.seq (V []) 0), (W [])⟩
def o182 (P : Params) : Obj := ⟨.none, none, (.func ⟨(S "is_row"), (S "is_row"), (defArgs (ST 23)), (.stmts (defBody (ST 23))), (defScope (ST 23)), 0, [], .none, .none, .none, .none, none, .none, .none, 0⟩), (W [])⟩
def o183 (P : Params) : Obj := ⟨(.type "code"), none, (.fields (V [(.str (S "is_row") 421), (.str (S "is_row") 422), (.str (S "/claim/cut.py") 423), (.int 75 0), (.int 1 0), (.int 0 0), (.int 0 0), (.int 3 0), (.ref 185), (.bool true), (.int 181 0), (.ref 186), .none, (.ref 187), (.ref 188), (.ref 189), (.int 425 0), (.int 75 0), (.str (S "/claim/cut.py") 426)])), (W [])⟩
def o184 (P : Params) : Obj := ⟨(.type "function"), none, (.func ⟨(S "is_row"), (S "is_row"), (defArgs (ST 23)), (.stmts (defBody (ST 23))), (defScope (ST 23)), 3, [], .none, .none, .none, (.str (S "nearcall.rows") 341), none, (.ref 190), .none, 0⟩), (W [])⟩
def o185 (P : Params) : Obj := ⟨(.type "tuple"), none, (.seq (V []) 0), (W [])⟩
def o186 (P : Params) : Obj := ⟨.none, none, (.fields (V [])), (W [])⟩
def o187 (P : Params) : Obj := ⟨(.type "tuple"), none, (.seq (V [(.str (S "tree") 431)]) 0), (W [])⟩
def o188 (P : Params) : Obj := ⟨(.type "tuple"), none, (.seq (V []) 0), (W [])⟩
def o189 (P : Params) : Obj := ⟨.none, none, (.func ⟨(S "check_row"), (S "check_row"), (defArgs (ST 24)), (.stmts (defBody (ST 24))), (defScope (ST 24)), 0, [], .none, .none, .none, .none, none, .none, .none, 0⟩), (W [])⟩
def o190 (P : Params) : Obj := ⟨(.type "code"), none, (.fields (V [(.str (S "check_row") 428), (.str (S "check_row") 429), (.str (S "/claim/cut.py") 430), (.int 77 0), (.int 1 0), (.int 0 0), (.int 0 0), (.int 3 0), (.ref 192), (.bool true), (.int 181 0), (.ref 193), .none, (.ref 194), (.ref 195), (.ref 196), (.int 432 0), (.int 77 0), (.str (S "/claim/cut.py") 433)])), (W [])⟩
def o191 (P : Params) : Obj := ⟨(.type "function"), none, (.func ⟨(S "check_row"), (S "check_row"), (defArgs (ST 24)), (.stmts (defBody (ST 24))), (defScope (ST 24)), 3, [], .none, .none, .none, (.str (S "nearcall.rows") 341), none, (.ref 197), .none, 0⟩), (W [])⟩
def objs_1 (P : Params) : List Obj :=
  [boot_o_0 P, boot_o_1 P, boot_o_2 P, o83 P, boot_o_4 P, boot_o_5 P, boot_o_6 P, boot_o_7 P, boot_o_8 P, boot_o_9 P, boot_o_10 P, o0 P, o84 P, o2 P, o3 P, o6 P, o7 P, o8 P, o9 P, o10 P, o11 P, o12 P, o13 P, o14 P, o15 P, o16 P, o17 P, o18 P, o19 P, o20 P, o21 P, o22 P, o23 P, o24 P, o25 P, o26 P, o27 P, o28 P, o29 P, o30 P] ++ (
  [o31 P, o32 P, o33 P, o34 P, o35 P, o36 P, o37 P, o38 P, o39 P, o40 P, o41 P, o42 P, o43 P, o44 P, o45 P, o46 P, o47 P, o48 P, o49 P, o50 P, o51 P, o52 P, o53 P, o54 P, o55 P, o56 P, o57 P, o58 P, o59 P, o60 P, o61 P, o62 P, o63 P, o64 P, o65 P, o66 P, o67 P, o68 P, o69 P, o70 P] ++ (
  [o71 P, o72 P, o73 P, o74 P, o75 P, o76 P, o77 P, o78 P, o79 P, o80 P, o81 P, o82 P, o85 P, o86 P, o87 P, o88 P, o89 P, o90 P, o91 P, o92 P, o93 P, o94 P, o95 P, o96 P, o97 P, o98 P, o99 P, o100 P, o101 P, o102 P, o103 P, o104 P, o105 P, o106 P, o107 P, o108 P, o109 P, o110 P, o111 P, o112 P] ++ (
  [o113 P, o114 P, o115 P, o116 P, o117 P, o118 P, o119 P, o120 P, o121 P, o122 P, o123 P, o124 P, o125 P, o126 P, o127 P, o128 P, o129 P, o130 P, o131 P, o132 P, o133 P, o134 P, o135 P, o136 P, o137 P, o138 P, o139 P, o140 P, o141 P, o142 P, o143 P, o144 P, o145 P, o146 P, o147 P, o148 P, o149 P, o150 P, o151 P, o152 P] ++ (
  [o153 P, o154 P, o155 P, o156 P, o157 P, o158 P, o159 P, o160 P, o161 P, o162 P, o163 P, o164 P, o165 P, o166 P, o167 P, o168 P, o169 P, o170 P, o171 P, o172 P, o173 P, o174 P, o175 P, o176 P, o177 P, o178 P, o179 P, o180 P, o181 P, o182 P, o183 P, o184 P, o185 P, o186 P, o187 P, o188 P, o189 P, o190 P, o191 P]))))
def o192 (P : Params) : Obj := ⟨(.type "dict"), none, (.dict (D [E P (S "__name__") 165 (.str (S "nearcall.making") 435), E P (S "__doc__") 166 .none, E P (S "__package__") 167 .none, E P (S "__loader__") 168 (.builtin "__main__.__loader__#opaque"), E P (S "__spec__") 169 .none, E P (S "__annotations__") 170 (.ref 6), E P (S "__builtins__") 171 (.ref 4), E P (S "__file__") 173 (.str (S "/claim/cut.py") 172), E P (S "__cached__") 174 .none, E P (S "HallError") 215 (.ref 31), E P (S "BadTree") 238 (.ref 51), E P (S "Ring") 263 (.ref 70), E P (S "TooMany") 288 (.ref 89), E P (S "Missing") 315 (.ref 108), E P (S "NoRow") 340 (.ref 128), E P (S "MOST_STEPS") 344 (.int 60 343), E P (S "MOST_DEEP") 346 (.int 12 345), E P (S "MOST_TIMES") 350 (.int 1000000000000000000000000000000 349), E P (S "MOST_SIDES") 352 (.int 12 351), E P (S "LONGEST_NAME") 354 (.int 8 353), E P (S "SMALL") 356 (.str (S "abcdefghijklmnopqrstuvwxyz") 355), E P (S "LETTERS") 358 (.str (S "abcdefghijklmnopqrstuvwxyzABCDEFGHIJKLMNOPQRSTUVWXYZ") 357), E P (S "is_word") 364 (.ref 135), E P (S "is_name") 371 (.ref 142), E P (S "is_number") 379 (.ref 149), E P (S "is_tuple_of") 387 (.ref 156), E P (S "is_plain_step") 394 (.ref 163), E P (S "is_group_head") 401 (.ref 170), E P (S "left_behind_step") 410 (.ref 177), E P (S "left_behind") 420 (.ref 184), E P (S "is_row") 427 (.ref 191), E P (S "check_row") 434 (.ref 198), E P (S "MOST_DONE") 440 (.int 1000000000000000000000000000000000000000000000000000000000000 439), E P (S "MOST_LISTED") 442 (.int 400 441), E P (S "CountMaker") 495 (.ref 236), E P (S "ListMaker") 557 (.ref 285), E P (S "Stretch") 592 (.ref 306)]) 37), (W [])⟩
def o193 (P : Params) : Obj := ⟨.none, none, (.fields (V [(.int 2 0), (.int 0 0), (.ref 20), (.int 7 0), (.int 0 0), (.ref 40), (.int 11 0), (.int 0 0), (.ref 59), (.int 16 0), (.int 0 0), (.ref 78), (.int 21 0), (.int 0 0), (.ref 97), (.int 26 0), (.int 0 0), (.ref 117), (.int 39 0), (.int 0 0), (.ref 134), (.int 43 0), (.int 0 0), (.ref 141), (.int 45 0), (.int 0 0), (.ref 148), (.int 49 0), (.int 0 0), (.ref 155), (.int 51 0), (.int 0 0), (.ref 162), (.int 59 0), (.int 0 0), (.ref 169), (.int 61 0), (.int 0 0), (.ref 176), (.int 67 0), (.int 0 0), (.ref 183), (.int 75 0), (.int 0 0), (.ref 190), (.int 77 0), (.int 0 0), (.ref 197), (.int 83 0), (.int 0 0), (.ref 204), (.int 98 0), (.int 0 0), (.ref 246), (.int 116 0), (.int 0 0), (.ref 295)])), (W [])⟩
def o194 (P : Params) : Obj := ⟨(.type "tuple"), none, (.seq (V []) 0), (W [])⟩
def o195 (P : Params) : Obj := ⟨(.type "builtin_function_or_method"), none, (.fields (V [(.builtin "type.__prepare__"), (.type "type")])), (W [])⟩
def o196 (P : Params) : Obj := ⟨(.type "dict"), none, (.dict (D [E P (S "__module__") 450 (.str (S "nearcall.making") 435), E P (S "__qualname__") 452 (.str (S "CountMaker") 451), E P (S "__firstlineno__") 454 (.int 83 453), E P (S "nothing") 461 (.ref 212), E P (S "of_step") 469 (.ref 219), E P (S "joined") 478 (.ref 226), E P (S "repeated") 487 (.ref 233), E P (S "__static_attributes__") 488 (.ref 234)]) 8), (W [])⟩
def o197 (P : Params) : Obj := ⟨(.type "tuple"), none, (.seq (V []) 0), (W [])⟩
def o198 (P : Params) : Obj := ⟨.none, none, (.fields (V [(.int 85 0), (.int 4 0), (.ref 211), (.int 88 0), (.int 4 0), (.ref 218), (.int 91 0), (.int 4 0), (.ref 225), (.int 96 0), (.int 4 0), (.ref 232)])), (W [])⟩
def o199 (P : Params) : Obj := ⟨(.type "code"), none, (.fields (V [(.str (S "CountMaker") 445), (.str (S "CountMaker") 446), (.str (S "/claim/cut.py") 447), (.int 83 0), (.int 0 0), (.int 0 0), (.int 0 0), (.int 0 0), (.ref 202), (.bool false), (.int 181 0), (.ref 203), .none, .none, .none, .none, (.int 448 0), (.int 83 0), (.str (S "/claim/cut.py") 449)])), (W [])⟩
def o200 (P : Params) : Obj := ⟨(.type "frame"), none, .plain, (W [(some (.ref 204)), (some (.ref 3)), (some (.ref 201)), none, (some (.str (S "nearcall.making") 435)), none, (some (.ref 0))])⟩
def o201 (P : Params) : Obj := ⟨(.type "tuple"), none, (.seq (V []) 0), (W [])⟩
def o202 (P : Params) : Obj := ⟨.none, none, (.fields (V [])), (W [])⟩
def o203 (P : Params) : Obj := ⟨(.type "tuple"), none, (.seq (V [(.str (S "self") 458)]) 0), (W [])⟩
def o204 (P : Params) : Obj := ⟨(.type "tuple"), none, (.seq (V []) 0), (W [])⟩
def o205 (P : Params) : Obj := ⟨.none, none, (.func ⟨(S "nothing"), (S "CountMaker.nothing"), (defArgs (inClass (ST 28) 0)), (.stmts (defBody (inClass (ST 28) 0))), (defScope (inClass (ST 28) 0)), 0, [], .none, .none, .none, .none, none, .none, .none, 0⟩), (W [])⟩
def o206 (P : Params) : Obj := ⟨(.type "code"), none, (.fields (V [(.str (S "nothing") 455), (.str (S "CountMaker.nothing") 456), (.str (S "/claim/cut.py") 457), (.int 85 0), (.int 1 0), (.int 0 0), (.int 0 0), (.int 3 0), (.ref 206), (.bool true), (.int 181 0), (.ref 207), .none, (.ref 208), (.ref 209), (.ref 210), (.int 459 0), (.int 85 0), (.str (S "/claim/cut.py") 460)])), (W [])⟩
def o207 (P : Params) : Obj := ⟨(.type "function"), none, (.func ⟨(S "nothing"), (S "CountMaker.nothing"), (defArgs (inClass (ST 28) 0)), (.stmts (defBody (inClass (ST 28) 0))), (defScope (inClass (ST 28) 0)), 3, [], .none, .none, .none, (.str (S "nearcall.making") 435), none, (.ref 211), .none, 0⟩), (W [])⟩
def o208 (P : Params) : Obj := ⟨(.type "tuple"), none, (.seq (V []) 0), (W [])⟩
def o209 (P : Params) : Obj := ⟨.none, none, (.fields (V [])), (W [])⟩
def o210 (P : Params) : Obj := ⟨(.type "tuple"), none, (.seq (V [(.str (S "self") 465), (.str (S "step") 466)]) 0), (W [])⟩
def o211 (P : Params) : Obj := ⟨(.type "tuple"), none, (.seq (V []) 0), (W [])⟩
def o212 (P : Params) : Obj := ⟨.none, none, (.func ⟨(S "of_step"), (S "CountMaker.of_step"), (defArgs (inClass (ST 28) 1)), (.stmts (defBody (inClass (ST 28) 1))), (defScope (inClass (ST 28) 1)), 0, [], .none, .none, .none, .none, none, .none, .none, 0⟩), (W [])⟩
def o213 (P : Params) : Obj := ⟨(.type "code"), none, (.fields (V [(.str (S "of_step") 462), (.str (S "CountMaker.of_step") 463), (.str (S "/claim/cut.py") 464), (.int 88 0), (.int 2 0), (.int 0 0), (.int 0 0), (.int 3 0), (.ref 213), (.bool true), (.int 181 0), (.ref 214), .none, (.ref 215), (.ref 216), (.ref 217), (.int 467 0), (.int 88 0), (.str (S "/claim/cut.py") 468)])), (W [])⟩
def o214 (P : Params) : Obj := ⟨(.type "function"), none, (.func ⟨(S "of_step"), (S "CountMaker.of_step"), (defArgs (inClass (ST 28) 1)), (.stmts (defBody (inClass (ST 28) 1))), (defScope (inClass (ST 28) 1)), 3, [], .none, .none, .none, (.str (S "nearcall.making") 435), none, (.ref 218), .none, 0⟩), (W [])⟩
def o215 (P : Params) : Obj := ⟨(.type "tuple"), none, (.seq (V []) 0), (W [])⟩
def o216 (P : Params) : Obj := ⟨.none, none, (.fields (V [])), (W [])⟩
def o217 (P : Params) : Obj := ⟨(.type "tuple"), none, (.seq (V [(.str (S "self") 473), (.str (S "ahead") 474), (.str (S "behind") 475)]) 0), (W [])⟩
def o218 (P : Params) : Obj := ⟨(.type "tuple"), none, (.seq (V []) 0), (W [])⟩
def o219 (P : Params) : Obj := ⟨.none, none, (.func ⟨(S "joined"), (S "CountMaker.joined"), (defArgs (inClass (ST 28) 2)), (.stmts (defBody (inClass (ST 28) 2))), (defScope (inClass (ST 28) 2)), 0, [], .none, .none, .none, .none, none, .none, .none, 0⟩), (W [])⟩
def o220 (P : Params) : Obj := ⟨(.type "code"), none, (.fields (V [(.str (S "joined") 470), (.str (S "CountMaker.joined") 471), (.str (S "/claim/cut.py") 472), (.int 91 0), (.int 3 0), (.int 0 0), (.int 0 0), (.int 3 0), (.ref 220), (.bool true), (.int 181 0), (.ref 221), .none, (.ref 222), (.ref 223), (.ref 224), (.int 476 0), (.int 91 0), (.str (S "/claim/cut.py") 477)])), (W [])⟩
def o221 (P : Params) : Obj := ⟨(.type "function"), none, (.func ⟨(S "joined"), (S "CountMaker.joined"), (defArgs (inClass (ST 28) 2)), (.stmts (defBody (inClass (ST 28) 2))), (defScope (inClass (ST 28) 2)), 3, [], .none, .none, .none, (.str (S "nearcall.making") 435), none, (.ref 225), .none, 0⟩), (W [])⟩
def o222 (P : Params) : Obj := ⟨(.type "tuple"), none, (.seq (V []) 0), (W [])⟩
def o223 (P : Params) : Obj := ⟨.none, none, (.fields (V [])), (W [])⟩
def o224 (P : Params) : Obj := ⟨(.type "tuple"), none, (.seq (V [(.str (S "self") 482), (.str (S "once") 483), (.str (S "many") 484)]) 0), (W [])⟩
def o225 (P : Params) : Obj := ⟨(.type "tuple"), none, (.seq (V []) 0), (W [])⟩
def o226 (P : Params) : Obj := ⟨.none, none, (.func ⟨(S "repeated"), (S "CountMaker.repeated"), (defArgs (inClass (ST 28) 3)), (.stmts (defBody (inClass (ST 28) 3))), (defScope (inClass (ST 28) 3)), 0, [], .none, .none, .none, .none, none, .none, .none, 0⟩), (W [])⟩
def o227 (P : Params) : Obj := ⟨(.type "code"), none, (.fields (V [(.str (S "repeated") 479), (.str (S "CountMaker.repeated") 480), (.str (S "/claim/cut.py") 481), (.int 96 0), (.int 3 0), (.int 0 0), (.int 0 0), (.int 3 0), (.ref 227), (.bool true), (.int 181 0), (.ref 228), .none, (.ref 229), (.ref 230), (.ref 231), (.int 485 0), (.int 96 0), (.str (S "/claim/cut.py") 486)])), (W [])⟩
def o228 (P : Params) : Obj := ⟨(.type "function"), none, (.func ⟨(S "repeated"), (S "CountMaker.repeated"), (defArgs (inClass (ST 28) 3)), (.stmts (defBody (inClass (ST 28) 3))), (defScope (inClass (ST 28) 3)), 3, [], .none, .none, .none, (.str (S "nearcall.making") 435), none, (.ref 232), .none, 0⟩), (W [])⟩
def o229 (P : Params) : Obj := ⟨(.type "tuple"), none, (.seq (V []) 0), (W [])⟩
def o230 (P : Params) : Obj := ⟨(.type "dict"), none, (.dict (D [E P (S "__module__") 450 (.str (S "nearcall.making") 435), E P (S "__firstlineno__") 454 (.int 83 453), E P (S "nothing") 461 (.ref 212), E P (S "of_step") 469 (.ref 219), E P (S "joined") 478 (.ref 226), E P (S "repeated") 487 (.ref 233), E P (S "__static_attributes__") 488 (.ref 234), E P (S "__dict__") 490 (.ref 237), E P (S "__weakref__") 492 (.ref 238), E P (S "__doc__") 493 .none]) 4), (W [])⟩
def o231 (P : Params) : Obj := ⟨(.type "type"), none, (.cls ⟨(S "CountMaker"), [(.type "object")], [(.ref 236), (.type "object")], 235, (S "CountMaker"), true, [], [], false, none, false⟩), (W [none, none, (some (.str (S "CountMaker") 443)), (some (.str (S "CountMaker") 451)), (some (.builtin "object.__new__")), (some (.bool true))])⟩
def o232 (P : Params) : Obj := ⟨(.type "getset_descriptor"), none, (.fields (V [(.str (S "__dict__") 489), (.ref 236), (.builtin "function.__dict__"), (.builtin "function.__dict__#set")])), (W [])⟩
def o233 (P : Params) : Obj := ⟨(.type "getset_descriptor"), none, (.fields (V [(.str (S "__weakref__") 491), (.ref 236), (.builtin "ExceptionGroup.__weakref__"), .none])), (W [])⟩
def o234 (P : Params) : Obj := ⟨(.type "super"), none, (.fields (V [(.ref 236), (.ref 236), (.ref 236)])), (W [])⟩
def o235 (P : Params) : Obj := ⟨(.type "builtin_function_or_method"), none, (.fields (V [(.builtin "object.__init_subclass__"), (.ref 236)])), (W [])⟩
def o236 (P : Params) : Obj := ⟨(.type "tuple"), none, (.seq (V []) 0), (W [])⟩
def o237 (P : Params) : Obj := ⟨(.type "builtin_function_or_method"), none, (.fields (V [(.builtin "type.__prepare__"), (.type "type")])), (W [])⟩
def o238 (P : Params) : Obj := ⟨(.type "dict"), none, (.dict (D [E P (S "__module__") 503 (.str (S "nearcall.making") 435), E P (S "__qualname__") 505 (.str (S "ListMaker") 504), E P (S "__firstlineno__") 507 (.int 98 506), E P (S "__init__") 515 (.ref 254), E P (S "nothing") 522 (.ref 261), E P (S "of_step") 530 (.ref 268), E P (S "joined") 539 (.ref 275), E P (S "repeated") 548 (.ref 282), E P (S "__static_attributes__") 550 (.ref 283)]) 9), (W [])⟩
def o239 (P : Params) : Obj := ⟨(.type "tuple"), none, (.seq (V []) 0), (W [])⟩
def o240 (P : Params) : Obj := ⟨.none, none, (.fields (V [(.int 100 0), (.int 4 0), (.ref 253), (.int 103 0), (.int 4 0), (.ref 260), (.int 106 0), (.int 4 0), (.ref 267), (.int 109 0), (.int 4 0), (.ref 274), (.int 112 0), (.int 4 0), (.ref 281)])), (W [])⟩
def o241 (P : Params) : Obj := ⟨(.type "code"), none, (.fields (V [(.str (S "ListMaker") 498), (.str (S "ListMaker") 499), (.str (S "/claim/cut.py") 500), (.int 98 0), (.int 0 0), (.int 0 0), (.int 0 0), (.int 0 0), (.ref 244), (.bool false), (.int 181 0), (.ref 245), .none, .none, .none, .none, (.int 501 0), (.int 98 0), (.str (S "/claim/cut.py") 502)])), (W [])⟩
def o242 (P : Params) : Obj := ⟨(.type "frame"), none, .plain, (W [(some (.ref 246)), (some (.ref 3)), (some (.ref 243)), none, (some (.str (S "nearcall.making") 435)), none, (some (.ref 0))])⟩
def o243 (P : Params) : Obj := ⟨(.type "tuple"), none, (.seq (V []) 0), (W [])⟩
def o244 (P : Params) : Obj := ⟨.none, none, (.fields (V [])), (W [])⟩
def o245 (P : Params) : Obj := ⟨(.type "tuple"), none, (.seq (V [(.str (S "self") 511), (.str (S "most") 512)]) 0), (W [])⟩
def o246 (P : Params) : Obj := ⟨(.type "tuple"), none, (.seq (V []) 0), (W [])⟩
def o247 (P : Params) : Obj := ⟨.none, none, (.func ⟨(S "__init__"), (S "ListMaker.__init__"), (defArgs (inClass (ST 29) 0)), (.stmts (defBody (inClass (ST 29) 0))), (defScope (inClass (ST 29) 0)), 0, [], .none, .none, .none, .none, none, .none, .none, 0⟩), (W [])⟩
def o248 (P : Params) : Obj := ⟨(.type "code"), none, (.fields (V [(.str (S "__init__") 508), (.str (S "ListMaker.__init__") 509), (.str (S "/claim/cut.py") 510), (.int 100 0), (.int 2 0), (.int 0 0), (.int 0 0), (.int 3 0), (.ref 248), (.bool true), (.int 181 0), (.ref 249), .none, (.ref 250), (.ref 251), (.ref 252), (.int 513 0), (.int 100 0), (.str (S "/claim/cut.py") 514)])), (W [])⟩
def o249 (P : Params) : Obj := ⟨(.type "function"), none, (.func ⟨(S "__init__"), (S "ListMaker.__init__"), (defArgs (inClass (ST 29) 0)), (.stmts (defBody (inClass (ST 29) 0))), (defScope (inClass (ST 29) 0)), 3, [], .none, .none, .none, (.str (S "nearcall.making") 435), none, (.ref 253), .none, 0⟩), (W [])⟩
def o250 (P : Params) : Obj := ⟨(.type "tuple"), none, (.seq (V []) 0), (W [])⟩
def o251 (P : Params) : Obj := ⟨.none, none, (.fields (V [])), (W [])⟩
def o252 (P : Params) : Obj := ⟨(.type "tuple"), none, (.seq (V [(.str (S "self") 519)]) 0), (W [])⟩
def o253 (P : Params) : Obj := ⟨(.type "tuple"), none, (.seq (V []) 0), (W [])⟩
def o254 (P : Params) : Obj := ⟨.none, none, (.func ⟨(S "nothing"), (S "ListMaker.nothing"), (defArgs (inClass (ST 29) 1)), (.stmts (defBody (inClass (ST 29) 1))), (defScope (inClass (ST 28) 0)), 0, [], .none, .none, .none, .none, none, .none, .none, 0⟩), (W [])⟩
def o255 (P : Params) : Obj := ⟨(.type "code"), none, (.fields (V [(.str (S "nothing") 516), (.str (S "ListMaker.nothing") 517), (.str (S "/claim/cut.py") 518), (.int 103 0), (.int 1 0), (.int 0 0), (.int 0 0), (.int 3 0), (.ref 255), (.bool true), (.int 181 0), (.ref 256), .none, (.ref 257), (.ref 258), (.ref 259), (.int 520 0), (.int 103 0), (.str (S "/claim/cut.py") 521)])), (W [])⟩
def o256 (P : Params) : Obj := ⟨(.type "function"), none, (.func ⟨(S "nothing"), (S "ListMaker.nothing"), (defArgs (inClass (ST 29) 1)), (.stmts (defBody (inClass (ST 29) 1))), (defScope (inClass (ST 28) 0)), 3, [], .none, .none, .none, (.str (S "nearcall.making") 435), none, (.ref 260), .none, 0⟩), (W [])⟩
def o257 (P : Params) : Obj := ⟨(.type "tuple"), none, (.seq (V []) 0), (W [])⟩
def o258 (P : Params) : Obj := ⟨.none, none, (.fields (V [])), (W [])⟩
def o259 (P : Params) : Obj := ⟨(.type "tuple"), none, (.seq (V [(.str (S "self") 526), (.str (S "step") 527)]) 0), (W [])⟩
def o260 (P : Params) : Obj := ⟨(.type "tuple"), none, (.seq (V []) 0), (W [])⟩
def o261 (P : Params) : Obj := ⟨.none, none, (.func ⟨(S "of_step"), (S "ListMaker.of_step"), (defArgs (inClass (ST 29) 2)), (.stmts (defBody (inClass (ST 29) 2))), (defScope (inClass (ST 28) 1)), 0, [], .none, .none, .none, .none, none, .none, .none, 0⟩), (W [])⟩
def o262 (P : Params) : Obj := ⟨(.type "code"), none, (.fields (V [(.str (S "of_step") 523), (.str (S "ListMaker.of_step") 524), (.str (S "/claim/cut.py") 525), (.int 106 0), (.int 2 0), (.int 0 0), (.int 0 0), (.int 3 0), (.ref 262), (.bool true), (.int 181 0), (.ref 263), .none, (.ref 264), (.ref 265), (.ref 266), (.int 528 0), (.int 106 0), (.str (S "/claim/cut.py") 529)])), (W [])⟩
def o263 (P : Params) : Obj := ⟨(.type "function"), none, (.func ⟨(S "of_step"), (S "ListMaker.of_step"), (defArgs (inClass (ST 29) 2)), (.stmts (defBody (inClass (ST 29) 2))), (defScope (inClass (ST 28) 1)), 3, [], .none, .none, .none, (.str (S "nearcall.making") 435), none, (.ref 267), .none, 0⟩), (W [])⟩
def o264 (P : Params) : Obj := ⟨(.type "tuple"), none, (.seq (V []) 0), (W [])⟩
def o265 (P : Params) : Obj := ⟨.none, none, (.fields (V [])), (W [])⟩
def o266 (P : Params) : Obj := ⟨(.type "tuple"), none, (.seq (V [(.str (S "self") 534), (.str (S "ahead") 535), (.str (S "behind") 536)]) 0), (W [])⟩
def o267 (P : Params) : Obj := ⟨(.type "tuple"), none, (.seq (V []) 0), (W [])⟩
def o268 (P : Params) : Obj := ⟨.none, none, (.func ⟨(S "joined"), (S "ListMaker.joined"), (defArgs (inClass (ST 29) 3)), (.stmts (defBody (inClass (ST 29) 3))), (defScope (inClass (ST 29) 3)), 0, [], .none, .none, .none, .none, none, .none, .none, 0⟩), (W [])⟩
def o269 (P : Params) : Obj := ⟨(.type "code"), none, (.fields (V [(.str (S "joined") 531), (.str (S "ListMaker.joined") 532), (.str (S "/claim/cut.py") 533), (.int 109 0), (.int 3 0), (.int 0 0), (.int 0 0), (.int 3 0), (.ref 269), (.bool true), (.int 181 0), (.ref 270), .none, (.ref 271), (.ref 272), (.ref 273), (.int 537 0), (.int 109 0), (.str (S "/claim/cut.py") 538)])), (W [])⟩
def o270 (P : Params) : Obj := ⟨(.type "function"), none, (.func ⟨(S "joined"), (S "ListMaker.joined"), (defArgs (inClass (ST 29) 3)), (.stmts (defBody (inClass (ST 29) 3))), (defScope (inClass (ST 29) 3)), 3, [], .none, .none, .none, (.str (S "nearcall.making") 435), none, (.ref 274), .none, 0⟩), (W [])⟩
def o271 (P : Params) : Obj := ⟨(.type "tuple"), none, (.seq (V []) 0), (W [])⟩
def o272 (P : Params) : Obj := ⟨.none, none, (.fields (V [])), (W [])⟩
def o273 (P : Params) : Obj := ⟨(.type "tuple"), none, (.seq (V [(.str (S "self") 543), (.str (S "once") 544), (.str (S "many") 545)]) 0), (W [])⟩
def o274 (P : Params) : Obj := ⟨(.type "tuple"), none, (.seq (V []) 0), (W [])⟩
def o275 (P : Params) : Obj := ⟨.none, none, (.func ⟨(S "repeated"), (S "ListMaker.repeated"), (defArgs (inClass (ST 29) 4)), (.stmts (defBody (inClass (ST 29) 4))), (defScope (inClass (ST 29) 4)), 0, [], .none, .none, .none, .none, none, .none, .none, 0⟩), (W [])⟩
def o276 (P : Params) : Obj := ⟨(.type "code"), none, (.fields (V [(.str (S "repeated") 540), (.str (S "ListMaker.repeated") 541), (.str (S "/claim/cut.py") 542), (.int 112 0), (.int 3 0), (.int 0 0), (.int 0 0), (.int 3 0), (.ref 276), (.bool true), (.int 181 0), (.ref 277), .none, (.ref 278), (.ref 279), (.ref 280), (.int 546 0), (.int 112 0), (.str (S "/claim/cut.py") 547)])), (W [])⟩
def o277 (P : Params) : Obj := ⟨(.type "function"), none, (.func ⟨(S "repeated"), (S "ListMaker.repeated"), (defArgs (inClass (ST 29) 4)), (.stmts (defBody (inClass (ST 29) 4))), (defScope (inClass (ST 29) 4)), 3, [], .none, .none, .none, (.str (S "nearcall.making") 435), none, (.ref 281), .none, 0⟩), (W [])⟩
def o278 (P : Params) : Obj := ⟨(.type "tuple"), none, (.seq (V [(.str (S "most") 549)]) 0), (W [])⟩
def o279 (P : Params) : Obj := ⟨(.type "dict"), none, (.dict (D [E P (S "__module__") 503 (.str (S "nearcall.making") 435), E P (S "__firstlineno__") 507 (.int 98 506), E P (S "__init__") 515 (.ref 254), E P (S "nothing") 522 (.ref 261), E P (S "of_step") 530 (.ref 268), E P (S "joined") 539 (.ref 275), E P (S "repeated") 548 (.ref 282), E P (S "__static_attributes__") 550 (.ref 283), E P (S "__dict__") 552 (.ref 286), E P (S "__weakref__") 554 (.ref 287), E P (S "__doc__") 555 .none]) 4), (W [])⟩
def o280 (P : Params) : Obj := ⟨(.type "type"), none, (.cls ⟨(S "ListMaker"), [(.type "object")], [(.ref 285), (.type "object")], 284, (S "ListMaker"), true, [], [], false, none, false⟩), (W [none, none, (some (.str (S "ListMaker") 496)), (some (.str (S "ListMaker") 504)), (some (.builtin "object.__new__")), (some (.bool true))])⟩
def o281 (P : Params) : Obj := ⟨(.type "getset_descriptor"), none, (.fields (V [(.str (S "__dict__") 551), (.ref 285), (.builtin "function.__dict__"), (.builtin "function.__dict__#set")])), (W [])⟩
def o282 (P : Params) : Obj := ⟨(.type "getset_descriptor"), none, (.fields (V [(.str (S "__weakref__") 553), (.ref 285), (.builtin "ExceptionGroup.__weakref__"), .none])), (W [])⟩
def o283 (P : Params) : Obj := ⟨(.type "super"), none, (.fields (V [(.ref 285), (.ref 285), (.ref 285)])), (W [])⟩
def o284 (P : Params) : Obj := ⟨(.type "builtin_function_or_method"), none, (.fields (V [(.builtin "object.__init_subclass__"), (.ref 285)])), (W [])⟩
def o285 (P : Params) : Obj := ⟨(.type "tuple"), none, (.seq (V []) 0), (W [])⟩
def o286 (P : Params) : Obj := ⟨(.type "builtin_function_or_method"), none, (.fields (V [(.builtin "type.__prepare__"), (.type "type")])), (W [])⟩
def o287 (P : Params) : Obj := ⟨(.type "dict"), none, (.dict (D [E P (S "__module__") 565 (.str (S "nearcall.making") 435), E P (S "__qualname__") 567 (.str (S "Stretch") 566), E P (S "__firstlineno__") 569 (.int 116 568), E P (S "__init__") 580 (.ref 303), E P (S "__static_attributes__") 585 (.ref 304)]) 5), (W [])⟩
def o288 (P : Params) : Obj := ⟨(.type "tuple"), none, (.seq (V []) 0), (W [])⟩
def o289 (P : Params) : Obj := ⟨.none, none, (.fields (V [(.int 118 0), (.int 4 0), (.ref 302)])), (W [])⟩
def o290 (P : Params) : Obj := ⟨(.type "code"), none, (.fields (V [(.str (S "Stretch") 560), (.str (S "Stretch") 561), (.str (S "/claim/cut.py") 562), (.int 116 0), (.int 0 0), (.int 0 0), (.int 0 0), (.int 0 0), (.ref 293), (.bool false), (.int 181 0), (.ref 294), .none, .none, .none, .none, (.int 563 0), (.int 116 0), (.str (S "/claim/cut.py") 564)])), (W [])⟩
def o291 (P : Params) : Obj := ⟨(.type "frame"), none, .plain, (W [(some (.ref 295)), (some (.ref 3)), (some (.ref 292)), none, (some (.str (S "nearcall.making") 435)), none, (some (.ref 0))])⟩
def o292 (P : Params) : Obj := ⟨(.type "tuple"), none, (.seq (V []) 0), (W [])⟩
def o293 (P : Params) : Obj := ⟨.none, none, (.fields (V [])), (W [])⟩
def o294 (P : Params) : Obj := ⟨(.type "tuple"), none, (.seq (V [(.str (S "self") 573), (.str (S "row") 574), (.str (S "name") 575), (.str (S "many") 576), (.str (S "worth") 577)]) 0), (W [])⟩
def o295 (P : Params) : Obj := ⟨(.type "tuple"), none, (.seq (V []) 0), (W [])⟩
def o296 (P : Params) : Obj := ⟨.none, none, (.func ⟨(S "__init__"), (S "Stretch.__init__"), (defArgs (inClass (ST 30) 0)), (.stmts (defBody (inClass (ST 30) 0))), (defScope (inClass (ST 30) 0)), 0, [], .none, .none, .none, .none, none, .none, .none, 0⟩), (W [])⟩
def o297 (P : Params) : Obj := ⟨(.type "code"), none, (.fields (V [(.str (S "__init__") 570), (.str (S "Stretch.__init__") 571), (.str (S "/claim/cut.py") 572), (.int 118 0), (.int 5 0), (.int 0 0), (.int 0 0), (.int 3 0), (.ref 297), (.bool true), (.int 181 0), (.ref 298), .none, (.ref 299), (.ref 300), (.ref 301), (.int 578 0), (.int 118 0), (.str (S "/claim/cut.py") 579)])), (W [])⟩
def o298 (P : Params) : Obj := ⟨(.type "function"), none, (.func ⟨(S "__init__"), (S "Stretch.__init__"), (defArgs (inClass (ST 30) 0)), (.stmts (defBody (inClass (ST 30) 0))), (defScope (inClass (ST 30) 0)), 3, [], .none, .none, .none, (.str (S "nearcall.making") 435), none, (.ref 302), .none, 0⟩), (W [])⟩
def o299 (P : Params) : Obj := ⟨(.type "tuple"), none, (.seq (V [(.str (S "many") 581), (.str (S "name") 582), (.str (S "todo") 583), (.str (S "worth") 584)]) 0), (W [])⟩
def o300 (P : Params) : Obj := ⟨(.type "dict"), none, (.dict (D [E P (S "__module__") 565 (.str (S "nearcall.making") 435), E P (S "__firstlineno__") 569 (.int 116 568), E P (S "__init__") 580 (.ref 303), E P (S "__static_attributes__") 585 (.ref 304), E P (S "__dict__") 587 (.ref 307), E P (S "__weakref__") 589 (.ref 308), E P (S "__doc__") 590 .none]) 4), (W [])⟩
def o301 (P : Params) : Obj := ⟨(.type "type"), none, (.cls ⟨(S "Stretch"), [(.type "object")], [(.ref 306), (.type "object")], 305, (S "Stretch"), true, [], [], false, none, false⟩), (W [none, none, (some (.str (S "Stretch") 558)), (some (.str (S "Stretch") 566)), (some (.builtin "object.__new__")), (some (.bool true))])⟩
def o302 (P : Params) : Obj := ⟨(.type "getset_descriptor"), none, (.fields (V [(.str (S "__dict__") 586), (.ref 306), (.builtin "function.__dict__"), (.builtin "function.__dict__#set")])), (W [])⟩
def o303 (P : Params) : Obj := ⟨(.type "getset_descriptor"), none, (.fields (V [(.str (S "__weakref__") 588), (.ref 306), (.builtin "ExceptionGroup.__weakref__"), .none])), (W [])⟩
def o304 (P : Params) : Obj := ⟨(.type "super"), none, (.fields (V [(.ref 306), (.ref 306), (.ref 306)])), (W [])⟩
def o305 (P : Params) : Obj := ⟨(.type "builtin_function_or_method"), none, (.fields (V [(.builtin "object.__init_subclass__"), (.ref 306)])), (W [])⟩
def objs_2 (P : Params) : List Obj :=
  [boot_o_0 P, boot_o_1 P, boot_o_2 P, o192 P, boot_o_4 P, boot_o_5 P, boot_o_6 P, boot_o_7 P, boot_o_8 P, boot_o_9 P, boot_o_10 P, o0 P, o193 P, o2 P, o3 P, o6 P, o7 P, o8 P, o9 P, o10 P, o11 P, o12 P, o13 P, o14 P, o15 P, o16 P, o17 P, o18 P, o19 P, o20 P, o21 P, o22 P, o23 P, o24 P, o25 P, o26 P, o27 P, o28 P, o29 P, o30 P] ++ (
  [o31 P, o32 P, o33 P, o34 P, o35 P, o36 P, o37 P, o38 P, o39 P, o40 P, o41 P, o42 P, o43 P, o44 P, o45 P, o46 P, o47 P, o48 P, o49 P, o50 P, o51 P, o52 P, o53 P, o54 P, o55 P, o56 P, o57 P, o58 P, o59 P, o60 P, o61 P, o62 P, o63 P, o64 P, o65 P, o66 P, o67 P, o68 P, o69 P, o70 P] ++ (
  [o71 P, o72 P, o73 P, o74 P, o75 P, o76 P, o77 P, o78 P, o79 P, o80 P, o81 P, o82 P, o85 P, o86 P, o87 P, o88 P, o89 P, o90 P, o91 P, o92 P, o93 P, o94 P, o95 P, o96 P, o97 P, o98 P, o99 P, o100 P, o101 P, o102 P, o103 P, o104 P, o105 P, o106 P, o107 P, o108 P, o109 P, o110 P, o111 P, o112 P] ++ (
  [o113 P, o114 P, o115 P, o116 P, o117 P, o118 P, o119 P, o120 P, o121 P, o122 P, o123 P, o124 P, o125 P, o126 P, o127 P, o128 P, o129 P, o130 P, o131 P, o132 P, o133 P, o134 P, o135 P, o136 P, o137 P, o138 P, o139 P, o140 P, o141 P, o142 P, o143 P, o144 P, o145 P, o146 P, o147 P, o148 P, o149 P, o150 P, o151 P, o152 P] ++ (
  [o153 P, o154 P, o155 P, o156 P, o157 P, o158 P, o159 P, o160 P, o161 P, o162 P, o163 P, o164 P, o165 P, o166 P, o167 P, o168 P, o169 P, o170 P, o171 P, o172 P, o173 P, o174 P, o175 P, o176 P, o177 P, o178 P, o179 P, o180 P, o181 P, o182 P, o183 P, o184 P, o185 P, o186 P, o187 P, o188 P, o189 P, o190 P, o191 P, o194 P] ++ (
  [o195 P, o196 P, o197 P, o198 P, o199 P, o200 P, o201 P, o202 P, o203 P, o204 P, o205 P, o206 P, o207 P, o208 P, o209 P, o210 P, o211 P, o212 P, o213 P, o214 P, o215 P, o216 P, o217 P, o218 P, o219 P, o220 P, o221 P, o222 P, o223 P, o224 P, o225 P, o226 P, o227 P, o228 P, o229 P, o230 P, o231 P, o232 P, o233 P, o234 P] ++ (
  [o235 P, o236 P, o237 P, o238 P, o239 P, o240 P, o241 P, o242 P, o243 P, o244 P, o245 P, o246 P, o247 P, o248 P, o249 P, o250 P, o251 P, o252 P, o253 P, o254 P, o255 P, o256 P, o257 P, o258 P, o259 P, o260 P, o261 P, o262 P, o263 P, o264 P, o265 P, o266 P, o267 P, o268 P, o269 P, o270 P, o271 P, o272 P, o273 P, o274 P] ++ (
  [o275 P, o276 P, o277 P, o278 P, o279 P, o280 P, o281 P, o282 P, o283 P, o284 P, o285 P, o286 P, o287 P, o288 P, o289 P, o290 P, o291 P, o292 P, o293 P, o294 P, o295 P, o296 P, o297 P, o298 P, o299 P, o300 P, o301 P, o302 P, o303 P, o304 P, o305 P])))))))
def o306 (P : Params) : Obj := ⟨(.type "dict"), none, (.dict (D [E P (S "__name__") 165 (.str (S "law_nearcall_k31_how_many_steps") 708), E P (S "__doc__") 166 .none, E P (S "__package__") 167 .none, E P (S "__loader__") 168 (.builtin "__main__.__loader__#opaque"), E P (S "__spec__") 169 .none, E P (S "__annotations__") 170 (.ref 6), E P (S "__builtins__") 171 (.ref 4), E P (S "__file__") 173 (.str (S "/claim/cut.py") 172), E P (S "__cached__") 174 .none, E P (S "HallError") 215 (.ref 31), E P (S "BadTree") 238 (.ref 51), E P (S "Ring") 263 (.ref 70), E P (S "TooMany") 288 (.ref 89), E P (S "Missing") 315 (.ref 108), E P (S "NoRow") 340 (.ref 128), E P (S "MOST_STEPS") 344 (.int 60 343), E P (S "MOST_DEEP") 346 (.int 12 345), E P (S "MOST_TIMES") 350 (.int 1000000000000000000000000000000 349), E P (S "MOST_SIDES") 352 (.int 12 351), E P (S "LONGEST_NAME") 354 (.int 8 353), E P (S "SMALL") 356 (.str (S "abcdefghijklmnopqrstuvwxyz") 355), E P (S "LETTERS") 358 (.str (S "abcdefghijklmnopqrstuvwxyzABCDEFGHIJKLMNOPQRSTUVWXYZ") 357), E P (S "is_word") 364 (.ref 135), E P (S "is_name") 371 (.ref 142), E P (S "is_number") 379 (.ref 149), E P (S "is_tuple_of") 387 (.ref 156), E P (S "is_plain_step") 394 (.ref 163), E P (S "is_group_head") 401 (.ref 170), E P (S "left_behind_step") 410 (.ref 177), E P (S "left_behind") 420 (.ref 184), E P (S "is_row") 427 (.ref 191), E P (S "check_row") 434 (.ref 198), E P (S "MOST_DONE") 440 (.int 1000000000000000000000000000000000000000000000000000000000000 439), E P (S "MOST_LISTED") 442 (.int 400 441), E P (S "CountMaker") 495 (.ref 236), E P (S "ListMaker") 557 (.ref 285), E P (S "Stretch") 592 (.ref 306), E P (S "Reckoning") 678 (.ref 369), E P (S "made_of") 687 (.ref 380), E P (S "many_done") 696 (.ref 388), E P (S "spelled") 707 (.ref 396), E P (S "_law_same") 715 (.ref 401), E P (S "_law_start") 724 (.ref 408), E P (S "_law_draw") 735 (.ref 415), E P (S "_law_of") 743 (.ref 422), E P (S "_law_letters") 749 (.ref 429), E P (S "_law_number") 756 (.ref 436), E P (S "_law_names") 762 (.ref 441), E P (S "_law_flat_tree") 769 (.ref 448), E P (S "_law_count") 781 (.ref 455), E P (S "_law_tower") 794 (.ref 462), E P (S "_law_told") 803 (.ref 469), E P (S "law") 822 (.ref 476)]) 53), (W [])⟩
def o307 (P : Params) : Obj := ⟨.none, none, (.fields (V [(.int 2 0), (.int 0 0), (.ref 20), (.int 7 0), (.int 0 0), (.ref 40), (.int 11 0), (.int 0 0), (.ref 59), (.int 16 0), (.int 0 0), (.ref 78), (.int 21 0), (.int 0 0), (.ref 97), (.int 26 0), (.int 0 0), (.ref 117), (.int 39 0), (.int 0 0), (.ref 134), (.int 43 0), (.int 0 0), (.ref 141), (.int 45 0), (.int 0 0), (.ref 148), (.int 49 0), (.int 0 0), (.ref 155), (.int 51 0), (.int 0 0), (.ref 162), (.int 59 0), (.int 0 0), (.ref 169), (.int 61 0), (.int 0 0), (.ref 176), (.int 67 0), (.int 0 0), (.ref 183), (.int 75 0), (.int 0 0), (.ref 190), (.int 77 0), (.int 0 0), (.ref 197), (.int 83 0), (.int 0 0), (.ref 204), (.int 98 0), (.int 0 0), (.ref 246), (.int 116 0), (.int 0 0), (.ref 295), (.int 123 0), (.int 0 0), (.ref 316), (.int 173 0), (.int 0 0), (.ref 379), (.int 175 0), (.int 0 0), (.ref 387), (.int 178 0), (.int 0 0), (.ref 395), (.int 183 0), (.int 0 0), (.ref 400), (.int 191 0), (.int 0 0), (.ref 407), (.int 196 0), (.int 0 0), (.ref 414), (.int 211 0), (.int 0 0), (.ref 421), (.int 213 0), (.int 0 0), (.ref 428), (.int 215 0), (.int 0 0), (.ref 435), (.int 217 0), (.int 0 0), (.ref 440), (.int 222 0), (.int 0 0), (.ref 447), (.int 224 0), (.int 0 0), (.ref 454), (.int 239 0), (.int 0 0), (.ref 461), (.int 255 0), (.int 0 0), (.ref 468), (.int 261 0), (.int 0 0), (.ref 475)])), (W [])⟩
def o308 (P : Params) : Obj := ⟨(.type "tuple"), none, (.seq (V []) 0), (W [])⟩
def o309 (P : Params) : Obj := ⟨(.type "builtin_function_or_method"), none, (.fields (V [(.builtin "type.__prepare__"), (.type "type")])), (W [])⟩
def o310 (P : Params) : Obj := ⟨(.type "dict"), none, (.dict (D [E P (S "__module__") 600 (.str (S "nearcall.making") 435), E P (S "__qualname__") 602 (.str (S "Reckoning") 601), E P (S "__firstlineno__") 604 (.int 123 603), E P (S "__init__") 613 (.ref 324), E P (S "begin") 623 (.ref 331), E P (S "add_worth") 632 (.ref 338), E P (S "do_name") 640 (.ref 345), E P (S "do_step") 648 (.ref 352), E P (S "finish") 657 (.ref 359), E P (S "worth_of") 666 (.ref 366), E P (S "__static_attributes__") 671 (.ref 367)]) 11), (W [])⟩
def o311 (P : Params) : Obj := ⟨(.type "tuple"), none, (.seq (V []) 0), (W [])⟩
def o312 (P : Params) : Obj := ⟨.none, none, (.fields (V [(.int 125 0), (.int 4 0), (.ref 323), (.int 131 0), (.int 4 0), (.ref 330), (.int 134 0), (.int 4 0), (.ref 337), (.int 138 0), (.int 4 0), (.ref 344), (.int 149 0), (.int 4 0), (.ref 351), (.int 157 0), (.int 4 0), (.ref 358), (.int 164 0), (.int 4 0), (.ref 365)])), (W [])⟩
def o313 (P : Params) : Obj := ⟨(.type "code"), none, (.fields (V [(.str (S "Reckoning") 595), (.str (S "Reckoning") 596), (.str (S "/claim/cut.py") 597), (.int 123 0), (.int 0 0), (.int 0 0), (.int 0 0), (.int 0 0), (.ref 314), (.bool false), (.int 181 0), (.ref 315), .none, .none, .none, .none, (.int 598 0), (.int 123 0), (.str (S "/claim/cut.py") 599)])), (W [])⟩
def o314 (P : Params) : Obj := ⟨(.type "frame"), none, .plain, (W [(some (.ref 316)), (some (.ref 3)), (some (.ref 313)), none, (some (.str (S "nearcall.making") 435)), none, (some (.ref 0))])⟩
def o315 (P : Params) : Obj := ⟨(.type "tuple"), none, (.seq (V []) 0), (W [])⟩
def o316 (P : Params) : Obj := ⟨.none, none, (.fields (V [])), (W [])⟩
def o317 (P : Params) : Obj := ⟨(.type "tuple"), none, (.seq (V [(.str (S "self") 608), (.str (S "maker") 609), (.str (S "book") 610)]) 0), (W [])⟩
def o318 (P : Params) : Obj := ⟨(.type "tuple"), none, (.seq (V []) 0), (W [])⟩
def o319 (P : Params) : Obj := ⟨.none, none, (.func ⟨(S "__init__"), (S "Reckoning.__init__"), (defArgs (inClass (ST 31) 0)), (.stmts (defBody (inClass (ST 31) 0))), (defScope (inClass (ST 31) 0)), 0, [], .none, .none, .none, .none, none, .none, .none, 0⟩), (W [])⟩
def o320 (P : Params) : Obj := ⟨(.type "code"), none, (.fields (V [(.str (S "__init__") 605), (.str (S "Reckoning.__init__") 606), (.str (S "/claim/cut.py") 607), (.int 125 0), (.int 3 0), (.int 0 0), (.int 0 0), (.int 3 0), (.ref 318), (.bool true), (.int 181 0), (.ref 319), .none, (.ref 320), (.ref 321), (.ref 322), (.int 611 0), (.int 125 0), (.str (S "/claim/cut.py") 612)])), (W [])⟩
def o321 (P : Params) : Obj := ⟨(.type "function"), none, (.func ⟨(S "__init__"), (S "Reckoning.__init__"), (defArgs (inClass (ST 31) 0)), (.stmts (defBody (inClass (ST 31) 0))), (defScope (inClass (ST 31) 0)), 3, [], .none, .none, .none, (.str (S "nearcall.making") 435), none, (.ref 323), .none, 0⟩), (W [])⟩
def o322 (P : Params) : Obj := ⟨(.type "tuple"), none, (.seq (V []) 0), (W [])⟩
def o323 (P : Params) : Obj := ⟨.none, none, (.fields (V [])), (W [])⟩
def o324 (P : Params) : Obj := ⟨(.type "tuple"), none, (.seq (V [(.str (S "self") 617), (.str (S "row") 618), (.str (S "name") 619), (.str (S "many") 620)]) 0), (W [])⟩
def o325 (P : Params) : Obj := ⟨(.type "tuple"), none, (.seq (V []) 0), (W [])⟩
def o326 (P : Params) : Obj := ⟨.none, none, (.func ⟨(S "begin"), (S "Reckoning.begin"), (defArgs (inClass (ST 31) 1)), (.stmts (defBody (inClass (ST 31) 1))), (defScope (inClass (ST 31) 1)), 0, [], .none, .none, .none, .none, none, .none, .none, 0⟩), (W [])⟩
def o327 (P : Params) : Obj := ⟨(.type "code"), none, (.fields (V [(.str (S "begin") 614), (.str (S "Reckoning.begin") 615), (.str (S "/claim/cut.py") 616), (.int 131 0), (.int 4 0), (.int 0 0), (.int 0 0), (.int 3 0), (.ref 325), (.bool true), (.int 181 0), (.ref 326), .none, (.ref 327), (.ref 328), (.ref 329), (.int 621 0), (.int 131 0), (.str (S "/claim/cut.py") 622)])), (W [])⟩
def o328 (P : Params) : Obj := ⟨(.type "function"), none, (.func ⟨(S "begin"), (S "Reckoning.begin"), (defArgs (inClass (ST 31) 1)), (.stmts (defBody (inClass (ST 31) 1))), (defScope (inClass (ST 31) 1)), 3, [], .none, .none, .none, (.str (S "nearcall.making") 435), none, (.ref 330), .none, 0⟩), (W [])⟩
def o329 (P : Params) : Obj := ⟨(.type "tuple"), none, (.seq (V []) 0), (W [])⟩
def o330 (P : Params) : Obj := ⟨.none, none, (.fields (V [])), (W [])⟩
def o331 (P : Params) : Obj := ⟨(.type "tuple"), none, (.seq (V [(.str (S "self") 627), (.str (S "worth") 628), (.str (S "last") 629)]) 0), (W [])⟩
def o332 (P : Params) : Obj := ⟨(.type "tuple"), none, (.seq (V []) 0), (W [])⟩
def o333 (P : Params) : Obj := ⟨.none, none, (.func ⟨(S "add_worth"), (S "Reckoning.add_worth"), (defArgs (inClass (ST 31) 2)), (.stmts (defBody (inClass (ST 31) 2))), (defScope (inClass (ST 31) 2)), 0, [], .none, .none, .none, .none, none, .none, .none, 0⟩), (W [])⟩
def o334 (P : Params) : Obj := ⟨(.type "code"), none, (.fields (V [(.str (S "add_worth") 624), (.str (S "Reckoning.add_worth") 625), (.str (S "/claim/cut.py") 626), (.int 134 0), (.int 2 0), (.int 0 0), (.int 0 0), (.int 3 0), (.ref 332), (.bool true), (.int 181 0), (.ref 333), .none, (.ref 334), (.ref 335), (.ref 336), (.int 630 0), (.int 134 0), (.str (S "/claim/cut.py") 631)])), (W [])⟩
def o335 (P : Params) : Obj := ⟨(.type "function"), none, (.func ⟨(S "add_worth"), (S "Reckoning.add_worth"), (defArgs (inClass (ST 31) 2)), (.stmts (defBody (inClass (ST 31) 2))), (defScope (inClass (ST 31) 2)), 3, [], .none, .none, .none, (.str (S "nearcall.making") 435), none, (.ref 337), .none, 0⟩), (W [])⟩
def o336 (P : Params) : Obj := ⟨(.type "tuple"), none, (.seq (V []) 0), (W [])⟩
def o337 (P : Params) : Obj := ⟨.none, none, (.fields (V [])), (W [])⟩
def o338 (P : Params) : Obj := ⟨(.type "tuple"), none, (.seq (V [(.str (S "self") 636), (.str (S "name") 637)]) 0), (W [])⟩
def o339 (P : Params) : Obj := ⟨(.type "tuple"), none, (.seq (V []) 0), (W [])⟩
def o340 (P : Params) : Obj := ⟨.none, none, (.func ⟨(S "do_name"), (S "Reckoning.do_name"), (defArgs (inClass (ST 31) 3)), (.stmts (defBody (inClass (ST 31) 3))), (defScope (inClass (ST 31) 3)), 0, [], .none, .none, .none, .none, none, .none, .none, 0⟩), (W [])⟩
def o341 (P : Params) : Obj := ⟨(.type "code"), none, (.fields (V [(.str (S "do_name") 633), (.str (S "Reckoning.do_name") 634), (.str (S "/claim/cut.py") 635), (.int 138 0), (.int 2 0), (.int 0 0), (.int 0 0), (.int 3 0), (.ref 339), (.bool true), (.int 181 0), (.ref 340), .none, (.ref 341), (.ref 342), (.ref 343), (.int 638 0), (.int 138 0), (.str (S "/claim/cut.py") 639)])), (W [])⟩
def o342 (P : Params) : Obj := ⟨(.type "function"), none, (.func ⟨(S "do_name"), (S "Reckoning.do_name"), (defArgs (inClass (ST 31) 3)), (.stmts (defBody (inClass (ST 31) 3))), (defScope (inClass (ST 31) 3)), 3, [], .none, .none, .none, (.str (S "nearcall.making") 435), none, (.ref 344), .none, 0⟩), (W [])⟩
def o343 (P : Params) : Obj := ⟨(.type "tuple"), none, (.seq (V []) 0), (W [])⟩
def o344 (P : Params) : Obj := ⟨.none, none, (.fields (V [])), (W [])⟩
def o345 (P : Params) : Obj := ⟨(.type "tuple"), none, (.seq (V [(.str (S "self") 644), (.str (S "step") 645)]) 0), (W [])⟩
def o346 (P : Params) : Obj := ⟨(.type "tuple"), none, (.seq (V []) 0), (W [])⟩
def o347 (P : Params) : Obj := ⟨.none, none, (.func ⟨(S "do_step"), (S "Reckoning.do_step"), (defArgs (inClass (ST 31) 4)), (.stmts (defBody (inClass (ST 31) 4))), (defScope (inClass (ST 28) 1)), 0, [], .none, .none, .none, .none, none, .none, .none, 0⟩), (W [])⟩
def o348 (P : Params) : Obj := ⟨(.type "code"), none, (.fields (V [(.str (S "do_step") 641), (.str (S "Reckoning.do_step") 642), (.str (S "/claim/cut.py") 643), (.int 149 0), (.int 2 0), (.int 0 0), (.int 0 0), (.int 3 0), (.ref 346), (.bool true), (.int 181 0), (.ref 347), .none, (.ref 348), (.ref 349), (.ref 350), (.int 646 0), (.int 149 0), (.str (S "/claim/cut.py") 647)])), (W [])⟩
def o349 (P : Params) : Obj := ⟨(.type "function"), none, (.func ⟨(S "do_step"), (S "Reckoning.do_step"), (defArgs (inClass (ST 31) 4)), (.stmts (defBody (inClass (ST 31) 4))), (defScope (inClass (ST 28) 1)), 3, [], .none, .none, .none, (.str (S "nearcall.making") 435), none, (.ref 351), .none, 0⟩), (W [])⟩
def o350 (P : Params) : Obj := ⟨(.type "tuple"), none, (.seq (V []) 0), (W [])⟩
def o351 (P : Params) : Obj := ⟨.none, none, (.fields (V [])), (W [])⟩
def o352 (P : Params) : Obj := ⟨(.type "tuple"), none, (.seq (V [(.str (S "self") 652), (.str (S "ended") 653), (.str (S "worth") 654)]) 0), (W [])⟩
def o353 (P : Params) : Obj := ⟨(.type "tuple"), none, (.seq (V []) 0), (W [])⟩
def o354 (P : Params) : Obj := ⟨.none, none, (.func ⟨(S "finish"), (S "Reckoning.finish"), (defArgs (inClass (ST 31) 5)), (.stmts (defBody (inClass (ST 31) 5))), (defScope (inClass (ST 31) 5)), 0, [], .none, .none, .none, .none, none, .none, .none, 0⟩), (W [])⟩
def o355 (P : Params) : Obj := ⟨(.type "code"), none, (.fields (V [(.str (S "finish") 649), (.str (S "Reckoning.finish") 650), (.str (S "/claim/cut.py") 651), (.int 157 0), (.int 1 0), (.int 0 0), (.int 0 0), (.int 3 0), (.ref 353), (.bool true), (.int 181 0), (.ref 354), .none, (.ref 355), (.ref 356), (.ref 357), (.int 655 0), (.int 157 0), (.str (S "/claim/cut.py") 656)])), (W [])⟩
def o356 (P : Params) : Obj := ⟨(.type "function"), none, (.func ⟨(S "finish"), (S "Reckoning.finish"), (defArgs (inClass (ST 31) 5)), (.stmts (defBody (inClass (ST 31) 5))), (defScope (inClass (ST 31) 5)), 3, [], .none, .none, .none, (.str (S "nearcall.making") 435), none, (.ref 358), .none, 0⟩), (W [])⟩
def o357 (P : Params) : Obj := ⟨(.type "tuple"), none, (.seq (V []) 0), (W [])⟩
def o358 (P : Params) : Obj := ⟨.none, none, (.fields (V [])), (W [])⟩
def o359 (P : Params) : Obj := ⟨(.type "tuple"), none, (.seq (V [(.str (S "self") 661), (.str (S "row") 662), (.str (S "last") 663)]) 0), (W [])⟩
def o360 (P : Params) : Obj := ⟨(.type "tuple"), none, (.seq (V []) 0), (W [])⟩
def o361 (P : Params) : Obj := ⟨.none, none, (.func ⟨(S "worth_of"), (S "Reckoning.worth_of"), (defArgs (inClass (ST 31) 6)), (.stmts (defBody (inClass (ST 31) 6))), (defScope (inClass (ST 31) 6)), 0, [], .none, .none, .none, .none, none, .none, .none, 0⟩), (W [])⟩
def o362 (P : Params) : Obj := ⟨(.type "code"), none, (.fields (V [(.str (S "worth_of") 658), (.str (S "Reckoning.worth_of") 659), (.str (S "/claim/cut.py") 660), (.int 164 0), (.int 2 0), (.int 0 0), (.int 0 0), (.int 3 0), (.ref 360), (.bool true), (.int 181 0), (.ref 361), .none, (.ref 362), (.ref 363), (.ref 364), (.int 664 0), (.int 164 0), (.str (S "/claim/cut.py") 665)])), (W [])⟩
def o363 (P : Params) : Obj := ⟨(.type "function"), none, (.func ⟨(S "worth_of"), (S "Reckoning.worth_of"), (defArgs (inClass (ST 31) 6)), (.stmts (defBody (inClass (ST 31) 6))), (defScope (inClass (ST 31) 6)), 3, [], .none, .none, .none, (.str (S "nearcall.making") 435), none, (.ref 365), .none, 0⟩), (W [])⟩
def o364 (P : Params) : Obj := ⟨(.type "tuple"), none, (.seq (V [(.str (S "begun_rows") 667), (.str (S "book") 668), (.str (S "maker") 669), (.str (S "named") 670)]) 0), (W [])⟩
def o365 (P : Params) : Obj := ⟨(.type "dict"), none, (.dict (D [E P (S "__module__") 600 (.str (S "nearcall.making") 435), E P (S "__firstlineno__") 604 (.int 123 603), E P (S "__init__") 613 (.ref 324), E P (S "begin") 623 (.ref 331), E P (S "add_worth") 632 (.ref 338), E P (S "do_name") 640 (.ref 345), E P (S "do_step") 648 (.ref 352), E P (S "finish") 657 (.ref 359), E P (S "worth_of") 666 (.ref 366), E P (S "__static_attributes__") 671 (.ref 367), E P (S "__dict__") 673 (.ref 370), E P (S "__weakref__") 675 (.ref 371), E P (S "__doc__") 676 .none]) 4), (W [])⟩
def o366 (P : Params) : Obj := ⟨(.type "type"), none, (.cls ⟨(S "Reckoning"), [(.type "object")], [(.ref 369), (.type "object")], 368, (S "Reckoning"), true, [], [], false, none, false⟩), (W [none, none, (some (.str (S "Reckoning") 593)), (some (.str (S "Reckoning") 601)), (some (.builtin "object.__new__")), (some (.bool true))])⟩
def o367 (P : Params) : Obj := ⟨(.type "getset_descriptor"), none, (.fields (V [(.str (S "__dict__") 672), (.ref 369), (.builtin "function.__dict__"), (.builtin "function.__dict__#set")])), (W [])⟩
def o368 (P : Params) : Obj := ⟨(.type "getset_descriptor"), none, (.fields (V [(.str (S "__weakref__") 674), (.ref 369), (.builtin "ExceptionGroup.__weakref__"), .none])), (W [])⟩
def o369 (P : Params) : Obj := ⟨(.type "super"), none, (.fields (V [(.ref 369), (.ref 369), (.ref 369)])), (W [])⟩
def o370 (P : Params) : Obj := ⟨(.type "builtin_function_or_method"), none, (.fields (V [(.builtin "object.__init_subclass__"), (.ref 369)])), (W [])⟩
def o371 (P : Params) : Obj := ⟨(.type "tuple"), none, (.seq (V []) 0), (W [])⟩
def o372 (P : Params) : Obj := ⟨.none, none, (.fields (V [])), (W [])⟩
def o373 (P : Params) : Obj := ⟨(.type "tuple"), none, (.seq (V [(.str (S "maker") 682), (.str (S "tree") 683), (.str (S "book") 684)]) 0), (W [])⟩
def o374 (P : Params) : Obj := ⟨(.type "tuple"), none, (.seq (V []) 0), (W [])⟩
def o375 (P : Params) : Obj := ⟨.none, none, (.func ⟨(S "made_of"), (S "made_of"), (defArgs (ST 32)), (.stmts (defBody (ST 32))), (defScope (ST 32)), 0, [], .none, .none, .none, .none, none, .none, .none, 0⟩), (W [])⟩
def o376 (P : Params) : Obj := ⟨(.type "code"), none, (.fields (V [(.str (S "made_of") 679), (.str (S "made_of") 680), (.str (S "/claim/cut.py") 681), (.int 173 0), (.int 3 0), (.int 0 0), (.int 0 0), (.int 3 0), (.ref 374), (.bool true), (.int 181 0), (.ref 375), .none, (.ref 376), (.ref 377), (.ref 378), (.int 685 0), (.int 173 0), (.str (S "/claim/cut.py") 686)])), (W [])⟩
def o377 (P : Params) : Obj := ⟨(.type "function"), none, (.func ⟨(S "made_of"), (S "made_of"), (defArgs (ST 32)), (.stmts (defBody (ST 32))), (defScope (ST 32)), 3, [], .none, .none, .none, (.str (S "nearcall.making") 435), none, (.ref 379), .none, 0⟩), (W [])⟩
def o378 (P : Params) : Obj := ⟨(.type "dict"), none, (.dict (D [E P (S "book") 688 .none]) 1), (W [])⟩
def o379 (P : Params) : Obj := ⟨(.type "tuple"), none, (.seq (V []) 0), (W [])⟩
def o380 (P : Params) : Obj := ⟨.none, none, (.fields (V [])), (W [])⟩
def o381 (P : Params) : Obj := ⟨(.type "tuple"), none, (.seq (V [(.str (S "tree") 692), (.str (S "book") 693)]) 0), (W [])⟩
def o382 (P : Params) : Obj := ⟨(.type "tuple"), none, (.seq (V []) 0), (W [])⟩
def o383 (P : Params) : Obj := ⟨.none, none, (.func ⟨(S "many_done"), (S "many_done"), (defArgs (ST 33)), (.stmts (defBody (ST 33))), (defScope (ST 33)), 0, [], .none, .none, .none, .none, none, .none, .none, 0⟩), (W [])⟩
def o384 (P : Params) : Obj := ⟨(.type "code"), none, (.fields (V [(.str (S "many_done") 689), (.str (S "many_done") 690), (.str (S "/claim/cut.py") 691), (.int 175 0), (.int 1 0), (.int 0 0), (.int 1 0), (.int 3 0), (.ref 382), (.bool true), (.int 181 0), (.ref 383), .none, (.ref 384), (.ref 385), (.ref 386), (.int 694 0), (.int 175 0), (.str (S "/claim/cut.py") 695)])), (W [])⟩
def o385 (P : Params) : Obj := ⟨(.type "function"), none, (.func ⟨(S "many_done"), (S "many_done"), (defArgs (ST 33)), (.stmts (defBody (ST 33))), (defScope (ST 33)), 3, [], .none, (.ref 381), .none, (.str (S "nearcall.making") 435), none, (.ref 387), .none, 0⟩), (W [])⟩
def o386 (P : Params) : Obj := ⟨(.type "dict"), none, (.dict (D [E P (S "book") 697 .none, E P (S "most") 698 (.int 400 441)]) 2), (W [])⟩
def o387 (P : Params) : Obj := ⟨(.type "tuple"), none, (.seq (V []) 0), (W [])⟩
def o388 (P : Params) : Obj := ⟨.none, none, (.fields (V [])), (W [])⟩
def o389 (P : Params) : Obj := ⟨(.type "tuple"), none, (.seq (V [(.str (S "tree") 702), (.str (S "book") 703), (.str (S "most") 704)]) 0), (W [])⟩
def o390 (P : Params) : Obj := ⟨(.type "tuple"), none, (.seq (V []) 0), (W [])⟩
def o391 (P : Params) : Obj := ⟨.none, none, (.func ⟨(S "spelled"), (S "spelled"), (defArgs (ST 34)), (.stmts (defBody (ST 34))), (defScope (ST 34)), 0, [], .none, .none, .none, .none, none, .none, .none, 0⟩), (W [])⟩
def o392 (P : Params) : Obj := ⟨(.type "code"), none, (.fields (V [(.str (S "spelled") 699), (.str (S "spelled") 700), (.str (S "/claim/cut.py") 701), (.int 178 0), (.int 1 0), (.int 0 0), (.int 2 0), (.int 3 0), (.ref 390), (.bool true), (.int 181 0), (.ref 391), .none, (.ref 392), (.ref 393), (.ref 394), (.int 705 0), (.int 178 0), (.str (S "/claim/cut.py") 706)])), (W [])⟩
def o393 (P : Params) : Obj := ⟨(.type "function"), none, (.func ⟨(S "spelled"), (S "spelled"), (defArgs (ST 34)), (.stmts (defBody (ST 34))), (defScope (ST 34)), 3, [], .none, (.ref 389), .none, (.str (S "nearcall.making") 435), none, (.ref 395), .none, 0⟩), (W [])⟩
def o394 (P : Params) : Obj := ⟨(.type "tuple"), none, (.seq (V []) 0), (W [])⟩
def o395 (P : Params) : Obj := ⟨.none, none, (.fields (V [])), (W [])⟩
def o396 (P : Params) : Obj := ⟨.none, none, (.func ⟨(S "_law_same"), (S "_law_same"), (defArgs (ST 36)), (.stmts (defBody (ST 36))), (defScope (ST 36)), 0, [], .none, .none, .none, .none, none, .none, .none, 0⟩), (W [])⟩
def o397 (P : Params) : Obj := ⟨(.type "code"), none, (.fields (V [(.str (S "_law_same") 710), (.str (S "_law_same") 711), (.str (S "/claim/cut.py") 712), (.int 183 0), (.int 2 0), (.int 0 0), (.int 0 0), (.int 3 0), (.ref 397), (.bool true), (.int 181 0), (.ref 398), .none, .none, .none, (.ref 399), (.int 713 0), (.int 183 0), (.str (S "/claim/cut.py") 714)])), (W [])⟩
def o398 (P : Params) : Obj := ⟨(.type "function"), none, (.func ⟨(S "_law_same"), (S "_law_same"), (defArgs (ST 36)), (.stmts (defBody (ST 36))), (defScope (ST 36)), 3, [], .none, .none, .none, (.str (S "law_nearcall_k31_how_many_steps") 708), none, (.ref 400), .none, 0⟩), (W [])⟩
def o399 (P : Params) : Obj := ⟨(.type "tuple"), none, (.seq (V []) 0), (W [])⟩
def o400 (P : Params) : Obj := ⟨.none, none, (.fields (V [])), (W [])⟩
def o401 (P : Params) : Obj := ⟨(.type "tuple"), none, (.seq (V [(.str (S "_law_script") 719), (.str (S "_law_seed") 720), (.str (S "_law_cell") 721)]) 0), (W [])⟩
def o402 (P : Params) : Obj := ⟨(.type "tuple"), none, (.seq (V []) 0), (W [])⟩
def o403 (P : Params) : Obj := ⟨.none, none, (.func ⟨(S "_law_start"), (S "_law_start"), (defArgs (ST 37)), (.stmts (defBody (ST 37))), (defScope (ST 37)), 0, [], .none, .none, .none, .none, none, .none, .none, 0⟩), (W [])⟩
def o404 (P : Params) : Obj := ⟨(.type "code"), none, (.fields (V [(.str (S "_law_start") 716), (.str (S "_law_start") 717), (.str (S "/claim/cut.py") 718), (.int 191 0), (.int 1 0), (.int 0 0), (.int 0 0), (.int 3 0), (.ref 402), (.bool true), (.int 181 0), (.ref 403), .none, (.ref 404), (.ref 405), (.ref 406), (.int 722 0), (.int 191 0), (.str (S "/claim/cut.py") 723)])), (W [])⟩
def o405 (P : Params) : Obj := ⟨(.type "function"), none, (.func ⟨(S "_law_start"), (S "_law_start"), (defArgs (ST 37)), (.stmts (defBody (ST 37))), (defScope (ST 37)), 3, [], .none, .none, .none, (.str (S "law_nearcall_k31_how_many_steps") 708), none, (.ref 407), .none, 0⟩), (W [])⟩
def o406 (P : Params) : Obj := ⟨(.type "tuple"), none, (.seq (V []) 0), (W [])⟩
def o407 (P : Params) : Obj := ⟨.none, none, (.fields (V [])), (W [])⟩
def o408 (P : Params) : Obj := ⟨(.type "tuple"), none, (.seq (V [(.str (S "_law_d") 728), (.str (S "_law_many") 729), (.str (S "_law_cell") 730), (.str (S "_law_digit") 731), (.str (S "_law_mix") 732)]) 0), (W [])⟩
def o409 (P : Params) : Obj := ⟨(.type "tuple"), none, (.seq (V []) 0), (W [])⟩
def o410 (P : Params) : Obj := ⟨.none, none, (.func ⟨(S "_law_draw"), (S "_law_draw"), (defArgs (ST 38)), (.stmts (defBody (ST 38))), (defScope (ST 38)), 0, [], .none, .none, .none, .none, none, .none, .none, 0⟩), (W [])⟩
def o411 (P : Params) : Obj := ⟨(.type "code"), none, (.fields (V [(.str (S "_law_draw") 725), (.str (S "_law_draw") 726), (.str (S "/claim/cut.py") 727), (.int 196 0), (.int 2 0), (.int 0 0), (.int 0 0), (.int 3 0), (.ref 409), (.bool true), (.int 181 0), (.ref 410), .none, (.ref 411), (.ref 412), (.ref 413), (.int 733 0), (.int 196 0), (.str (S "/claim/cut.py") 734)])), (W [])⟩
def o412 (P : Params) : Obj := ⟨(.type "function"), none, (.func ⟨(S "_law_draw"), (S "_law_draw"), (defArgs (ST 38)), (.stmts (defBody (ST 38))), (defScope (ST 38)), 3, [], .none, .none, .none, (.str (S "law_nearcall_k31_how_many_steps") 708), none, (.ref 414), .none, 0⟩), (W [])⟩
def o413 (P : Params) : Obj := ⟨(.type "tuple"), none, (.seq (V []) 0), (W [])⟩
def o414 (P : Params) : Obj := ⟨.none, none, (.fields (V [])), (W [])⟩
def o415 (P : Params) : Obj := ⟨(.type "tuple"), none, (.seq (V [(.str (S "_law_d") 739), (.str (S "_law_some") 740)]) 0), (W [])⟩
def o416 (P : Params) : Obj := ⟨(.type "tuple"), none, (.seq (V []) 0), (W [])⟩
def o417 (P : Params) : Obj := ⟨.none, none, (.func ⟨(S "_law_of"), (S "_law_of"), (defArgs (ST 39)), (.stmts (defBody (ST 39))), (defScope (ST 39)), 0, [], .none, .none, .none, .none, none, .none, .none, 0⟩), (W [])⟩
def o418 (P : Params) : Obj := ⟨(.type "code"), none, (.fields (V [(.str (S "_law_of") 736), (.str (S "_law_of") 737), (.str (S "/claim/cut.py") 738), (.int 211 0), (.int 2 0), (.int 0 0), (.int 0 0), (.int 3 0), (.ref 416), (.bool true), (.int 181 0), (.ref 417), .none, (.ref 418), (.ref 419), (.ref 420), (.int 741 0), (.int 211 0), (.str (S "/claim/cut.py") 742)])), (W [])⟩
def o419 (P : Params) : Obj := ⟨(.type "function"), none, (.func ⟨(S "_law_of"), (S "_law_of"), (defArgs (ST 39)), (.stmts (defBody (ST 39))), (defScope (ST 39)), 3, [], .none, .none, .none, (.str (S "law_nearcall_k31_how_many_steps") 708), none, (.ref 421), .none, 0⟩), (W [])⟩
def o420 (P : Params) : Obj := ⟨(.type "tuple"), none, (.seq (V []) 0), (W [])⟩
def o421 (P : Params) : Obj := ⟨.none, none, (.fields (V [])), (W [])⟩
def o422 (P : Params) : Obj := ⟨(.type "tuple"), none, (.seq (V []) 0), (W [])⟩
def o423 (P : Params) : Obj := ⟨(.type "tuple"), none, (.seq (V []) 0), (W [])⟩
def o424 (P : Params) : Obj := ⟨.none, none, (.func ⟨(S "_law_letters"), (S "_law_letters"), (defArgs (ST 40)), (.stmts (defBody (ST 40))), (defScope (ST 40)), 0, [], .none, .none, .none, .none, none, .none, .none, 0⟩), (W [])⟩
def o425 (P : Params) : Obj := ⟨(.type "code"), none, (.fields (V [(.str (S "_law_letters") 744), (.str (S "_law_letters") 745), (.str (S "/claim/cut.py") 746), (.int 213 0), (.int 0 0), (.int 0 0), (.int 0 0), (.int 3 0), (.ref 423), (.bool true), (.int 181 0), (.ref 424), .none, (.ref 425), (.ref 426), (.ref 427), (.int 747 0), (.int 213 0), (.str (S "/claim/cut.py") 748)])), (W [])⟩
def o426 (P : Params) : Obj := ⟨(.type "function"), none, (.func ⟨(S "_law_letters"), (S "_law_letters"), (defArgs (ST 40)), (.stmts (defBody (ST 40))), (defScope (ST 40)), 3, [], .none, .none, .none, (.str (S "law_nearcall_k31_how_many_steps") 708), none, (.ref 428), .none, 0⟩), (W [])⟩
def o427 (P : Params) : Obj := ⟨(.type "tuple"), none, (.seq (V []) 0), (W [])⟩
def o428 (P : Params) : Obj := ⟨.none, none, (.fields (V [])), (W [])⟩
def o429 (P : Params) : Obj := ⟨(.type "tuple"), none, (.seq (V [(.str (S "_law_d") 753)]) 0), (W [])⟩
def o430 (P : Params) : Obj := ⟨(.type "tuple"), none, (.seq (V []) 0), (W [])⟩
def o431 (P : Params) : Obj := ⟨.none, none, (.func ⟨(S "_law_number"), (S "_law_number"), (defArgs (ST 41)), (.stmts (defBody (ST 41))), (defScope (ST 41)), 0, [], .none, .none, .none, .none, none, .none, .none, 0⟩), (W [])⟩
def o432 (P : Params) : Obj := ⟨(.type "code"), none, (.fields (V [(.str (S "_law_number") 750), (.str (S "_law_number") 751), (.str (S "/claim/cut.py") 752), (.int 215 0), (.int 1 0), (.int 0 0), (.int 0 0), (.int 3 0), (.ref 430), (.bool true), (.int 181 0), (.ref 431), .none, (.ref 432), (.ref 433), (.ref 434), (.int 754 0), (.int 215 0), (.str (S "/claim/cut.py") 755)])), (W [])⟩
def o433 (P : Params) : Obj := ⟨(.type "function"), none, (.func ⟨(S "_law_number"), (S "_law_number"), (defArgs (ST 41)), (.stmts (defBody (ST 41))), (defScope (ST 41)), 3, [], .none, .none, .none, (.str (S "law_nearcall_k31_how_many_steps") 708), none, (.ref 435), .none, 0⟩), (W [])⟩
def o434 (P : Params) : Obj := ⟨(.type "tuple"), none, (.seq (V []) 0), (W [])⟩
def o435 (P : Params) : Obj := ⟨.none, none, (.fields (V [])), (W [])⟩
def o436 (P : Params) : Obj := ⟨.none, none, (.func ⟨(S "_law_names"), (S "_law_names"), (defArgs (ST 42)), (.stmts (defBody (ST 42))), (defScope (ST 42)), 0, [], .none, .none, .none, .none, none, .none, .none, 0⟩), (W [])⟩
def o437 (P : Params) : Obj := ⟨(.type "code"), none, (.fields (V [(.str (S "_law_names") 757), (.str (S "_law_names") 758), (.str (S "/claim/cut.py") 759), (.int 217 0), (.int 2 0), (.int 0 0), (.int 0 0), (.int 3 0), (.ref 437), (.bool true), (.int 181 0), (.ref 438), .none, .none, .none, (.ref 439), (.int 760 0), (.int 217 0), (.str (S "/claim/cut.py") 761)])), (W [])⟩
def o438 (P : Params) : Obj := ⟨(.type "function"), none, (.func ⟨(S "_law_names"), (S "_law_names"), (defArgs (ST 42)), (.stmts (defBody (ST 42))), (defScope (ST 42)), 3, [], .none, .none, .none, (.str (S "law_nearcall_k31_how_many_steps") 708), none, (.ref 440), .none, 0⟩), (W [])⟩
def o439 (P : Params) : Obj := ⟨(.type "tuple"), none, (.seq (V []) 0), (W [])⟩
def o440 (P : Params) : Obj := ⟨.none, none, (.fields (V [])), (W [])⟩
def o441 (P : Params) : Obj := ⟨(.type "tuple"), none, (.seq (V [(.str (S "_law_steps") 766)]) 0), (W [])⟩
def o442 (P : Params) : Obj := ⟨(.type "tuple"), none, (.seq (V []) 0), (W [])⟩
def o443 (P : Params) : Obj := ⟨.none, none, (.func ⟨(S "_law_flat_tree"), (S "_law_flat_tree"), (defArgs (ST 43)), (.stmts (defBody (ST 43))), (defScope (ST 43)), 0, [], .none, .none, .none, .none, none, .none, .none, 0⟩), (W [])⟩
def o444 (P : Params) : Obj := ⟨(.type "code"), none, (.fields (V [(.str (S "_law_flat_tree") 763), (.str (S "_law_flat_tree") 764), (.str (S "/claim/cut.py") 765), (.int 222 0), (.int 1 0), (.int 0 0), (.int 0 0), (.int 3 0), (.ref 442), (.bool true), (.int 181 0), (.ref 443), .none, (.ref 444), (.ref 445), (.ref 446), (.int 767 0), (.int 222 0), (.str (S "/claim/cut.py") 768)])), (W [])⟩
def o445 (P : Params) : Obj := ⟨(.type "function"), none, (.func ⟨(S "_law_flat_tree"), (S "_law_flat_tree"), (defArgs (ST 43)), (.stmts (defBody (ST 43))), (defScope (ST 43)), 3, [], .none, .none, .none, (.str (S "law_nearcall_k31_how_many_steps") 708), none, (.ref 447), .none, 0⟩), (W [])⟩
def o446 (P : Params) : Obj := ⟨(.type "tuple"), none, (.seq (V []) 0), (W [])⟩
def o447 (P : Params) : Obj := ⟨.none, none, (.fields (V [])), (W [])⟩
def o448 (P : Params) : Obj := ⟨(.type "tuple"), none, (.seq (V [(.str (S "_law_book_it") 773), (.str (S "_law_known") 774), (.str (S "_law_tree") 775), (.str (S "_law_many") 776), (.str (S "_law_step") 777), (.str (S "_law_inner") 778)]) 0), (W [])⟩
def o449 (P : Params) : Obj := ⟨(.type "tuple"), none, (.seq (V []) 0), (W [])⟩
def o450 (P : Params) : Obj := ⟨.none, none, (.func ⟨(S "_law_count"), (S "_law_count"), (defArgs (ST 44)), (.stmts (defBody (ST 44))), (defScope (ST 44)), 0, [], .none, .none, .none, .none, none, .none, .none, 0⟩), (W [])⟩
def o451 (P : Params) : Obj := ⟨(.type "code"), none, (.fields (V [(.str (S "_law_count") 770), (.str (S "_law_count") 771), (.str (S "/claim/cut.py") 772), (.int 224 0), (.int 3 0), (.int 0 0), (.int 0 0), (.int 3 0), (.ref 449), (.bool true), (.int 181 0), (.ref 450), .none, (.ref 451), (.ref 452), (.ref 453), (.int 779 0), (.int 224 0), (.str (S "/claim/cut.py") 780)])), (W [])⟩
def o452 (P : Params) : Obj := ⟨(.type "function"), none, (.func ⟨(S "_law_count"), (S "_law_count"), (defArgs (ST 44)), (.stmts (defBody (ST 44))), (defScope (ST 44)), 3, [], .none, .none, .none, (.str (S "law_nearcall_k31_how_many_steps") 708), none, (.ref 454), .none, 0⟩), (W [])⟩
def o453 (P : Params) : Obj := ⟨(.type "tuple"), none, (.seq (V []) 0), (W [])⟩
def o454 (P : Params) : Obj := ⟨.none, none, (.fields (V [])), (W [])⟩
def o455 (P : Params) : Obj := ⟨(.type "tuple"), none, (.seq (V [(.str (S "_law_d") 785), (.str (S "_law_names_here") 786), (.str (S "_law_k") 787), (.str (S "_law_steps") 788), (.str (S "_law_turn") 789), (.str (S "_law_how") 790), (.str (S "_law_tree") 791)]) 0), (W [])⟩
def o456 (P : Params) : Obj := ⟨(.type "tuple"), none, (.seq (V []) 0), (W [])⟩
def o457 (P : Params) : Obj := ⟨.none, none, (.func ⟨(S "_law_tower"), (S "_law_tower"), (defArgs (ST 45)), (.stmts (defBody (ST 45))), (defScope (ST 45)), 0, [], .none, .none, .none, .none, none, .none, .none, 0⟩), (W [])⟩
def o458 (P : Params) : Obj := ⟨(.type "code"), none, (.fields (V [(.str (S "_law_tower") 782), (.str (S "_law_tower") 783), (.str (S "/claim/cut.py") 784), (.int 239 0), (.int 3 0), (.int 0 0), (.int 0 0), (.int 3 0), (.ref 456), (.bool true), (.int 181 0), (.ref 457), .none, (.ref 458), (.ref 459), (.ref 460), (.int 792 0), (.int 239 0), (.str (S "/claim/cut.py") 793)])), (W [])⟩
def o459 (P : Params) : Obj := ⟨(.type "function"), none, (.func ⟨(S "_law_tower"), (S "_law_tower"), (defArgs (ST 45)), (.stmts (defBody (ST 45))), (defScope (ST 45)), 3, [], .none, .none, .none, (.str (S "law_nearcall_k31_how_many_steps") 708), none, (.ref 461), .none, 0⟩), (W [])⟩
def o460 (P : Params) : Obj := ⟨(.type "tuple"), none, (.seq (V []) 0), (W [])⟩
def o461 (P : Params) : Obj := ⟨.none, none, (.fields (V [])), (W [])⟩
def o462 (P : Params) : Obj := ⟨(.type "tuple"), none, (.seq (V [(.str (S "_law_ask") 798), (.str (S "_law_found") 799), (.str (S "e") 800)]) 0), (W [])⟩
def o463 (P : Params) : Obj := ⟨(.type "tuple"), none, (.seq (V []) 0), (W [])⟩
def o464 (P : Params) : Obj := ⟨.none, none, (.func ⟨(S "_law_told"), (S "_law_told"), (defArgs (ST 46)), (.stmts (defBody (ST 46))), (defScope (ST 46)), 0, [], .none, .none, .none, .none, none, .none, .none, 0⟩), (W [])⟩
def o465 (P : Params) : Obj := ⟨(.type "code"), none, (.fields (V [(.str (S "_law_told") 795), (.str (S "_law_told") 796), (.str (S "/claim/cut.py") 797), (.int 255 0), (.int 1 0), (.int 0 0), (.int 0 0), (.int 3 0), (.ref 463), (.bool true), (.int 181 0), (.ref 464), .none, (.ref 465), (.ref 466), (.ref 467), (.int 801 0), (.int 255 0), (.str (S "/claim/cut.py") 802)])), (W [])⟩
def o466 (P : Params) : Obj := ⟨(.type "function"), none, (.func ⟨(S "_law_told"), (S "_law_told"), (defArgs (ST 46)), (.stmts (defBody (ST 46))), (defScope (ST 46)), 3, [], .none, .none, .none, (.str (S "law_nearcall_k31_how_many_steps") 708), none, (.ref 468), .none, 0⟩), (W [])⟩
def o467 (P : Params) : Obj := ⟨(.type "tuple"), none, (.seq (V []) 0), (W [])⟩
def o468 (P : Params) : Obj := ⟨.none, none, (.fields (V [])), (W [])⟩
def o469 (P : Params) : Obj := ⟨(.type "tuple"), none, (.seq (V [(.str (S "_law_script") 807), (.str (S "_law_d") 808), (.str (S "_law_names_here") 809), (.str (S "_law_k") 810), (.str (S "_law_name") 811), (.str (S "_law_due") 812), (.str (S "_law_told_here") 813), (.str (S "_law_found") 814)]) 0), (W [])⟩
def o470 (P : Params) : Obj := ⟨(.type "tuple"), none, (.seq (V [(.str (S "_law_book_it") 815), (.str (S "_law_long") 816), (.str (S "_law_more") 817), (.str (S "_law_most_it") 818), (.str (S "_law_tree") 819)]) 0), (W [])⟩
def o471 (P : Params) : Obj := ⟨.none, none, (.func ⟨(S "law"), (S "law"), (defArgs (ST 47)), (.stmts (defBody (ST 47))), (defScope (ST 47)), 0, [], .none, .none, .none, .none, none, .none, .none, 0⟩), (W [])⟩
def o472 (P : Params) : Obj := ⟨(.type "code"), none, (.fields (V [(.str (S "law") 804), (.str (S "law") 805), (.str (S "/claim/cut.py") 806), (.int 261 0), (.int 1 0), (.int 0 0), (.int 0 0), (.int 3 0), (.ref 470), (.bool true), (.int 181 0), (.ref 471), .none, (.ref 472), (.ref 473), (.ref 474), (.int 820 0), (.int 261 0), (.str (S "/claim/cut.py") 821)])), (W [])⟩
def o473 (P : Params) : Obj := ⟨(.type "function"), none, (.func ⟨(S "law"), (S "law"), (defArgs (ST 47)), (.stmts (defBody (ST 47))), (defScope (ST 47)), 3, [], .none, .none, .none, (.str (S "law_nearcall_k31_how_many_steps") 708), none, (.ref 475), .none, 0⟩), (W [])⟩
def objs_3 (P : Params) : List Obj :=
  [boot_o_0 P, boot_o_1 P, boot_o_2 P, o306 P, boot_o_4 P, boot_o_5 P, boot_o_6 P, boot_o_7 P, boot_o_8 P, boot_o_9 P, boot_o_10 P, o0 P, o307 P, o2 P, o3 P, o6 P, o7 P, o8 P, o9 P, o10 P, o11 P, o12 P, o13 P, o14 P, o15 P, o16 P, o17 P, o18 P, o19 P, o20 P, o21 P, o22 P, o23 P, o24 P, o25 P, o26 P, o27 P, o28 P, o29 P, o30 P] ++ (
  [o31 P, o32 P, o33 P, o34 P, o35 P, o36 P, o37 P, o38 P, o39 P, o40 P, o41 P, o42 P, o43 P, o44 P, o45 P, o46 P, o47 P, o48 P, o49 P, o50 P, o51 P, o52 P, o53 P, o54 P, o55 P, o56 P, o57 P, o58 P, o59 P, o60 P, o61 P, o62 P, o63 P, o64 P, o65 P, o66 P, o67 P, o68 P, o69 P, o70 P] ++ (
  [o71 P, o72 P, o73 P, o74 P, o75 P, o76 P, o77 P, o78 P, o79 P, o80 P, o81 P, o82 P, o85 P, o86 P, o87 P, o88 P, o89 P, o90 P, o91 P, o92 P, o93 P, o94 P, o95 P, o96 P, o97 P, o98 P, o99 P, o100 P, o101 P, o102 P, o103 P, o104 P, o105 P, o106 P, o107 P, o108 P, o109 P, o110 P, o111 P, o112 P] ++ (
  [o113 P, o114 P, o115 P, o116 P, o117 P, o118 P, o119 P, o120 P, o121 P, o122 P, o123 P, o124 P, o125 P, o126 P, o127 P, o128 P, o129 P, o130 P, o131 P, o132 P, o133 P, o134 P, o135 P, o136 P, o137 P, o138 P, o139 P, o140 P, o141 P, o142 P, o143 P, o144 P, o145 P, o146 P, o147 P, o148 P, o149 P, o150 P, o151 P, o152 P] ++ (
  [o153 P, o154 P, o155 P, o156 P, o157 P, o158 P, o159 P, o160 P, o161 P, o162 P, o163 P, o164 P, o165 P, o166 P, o167 P, o168 P, o169 P, o170 P, o171 P, o172 P, o173 P, o174 P, o175 P, o176 P, o177 P, o178 P, o179 P, o180 P, o181 P, o182 P, o183 P, o184 P, o185 P, o186 P, o187 P, o188 P, o189 P, o190 P, o191 P, o194 P] ++ (
  [o195 P, o196 P, o197 P, o198 P, o199 P, o200 P, o201 P, o202 P, o203 P, o204 P, o205 P, o206 P, o207 P, o208 P, o209 P, o210 P, o211 P, o212 P, o213 P, o214 P, o215 P, o216 P, o217 P, o218 P, o219 P, o220 P, o221 P, o222 P, o223 P, o224 P, o225 P, o226 P, o227 P, o228 P, o229 P, o230 P, o231 P, o232 P, o233 P, o234 P] ++ (
  [o235 P, o236 P, o237 P, o238 P, o239 P, o240 P, o241 P, o242 P, o243 P, o244 P, o245 P, o246 P, o247 P, o248 P, o249 P, o250 P, o251 P, o252 P, o253 P, o254 P, o255 P, o256 P, o257 P, o258 P, o259 P, o260 P, o261 P, o262 P, o263 P, o264 P, o265 P, o266 P, o267 P, o268 P, o269 P, o270 P, o271 P, o272 P, o273 P, o274 P] ++ (
  [o275 P, o276 P, o277 P, o278 P, o279 P, o280 P, o281 P, o282 P, o283 P, o284 P, o285 P, o286 P, o287 P, o288 P, o289 P, o290 P, o291 P, o292 P, o293 P, o294 P, o295 P, o296 P, o297 P, o298 P, o299 P, o300 P, o301 P, o302 P, o303 P, o304 P, o305 P, o308 P, o309 P, o310 P, o311 P, o312 P, o313 P, o314 P, o315 P, o316 P] ++ (
  [o317 P, o318 P, o319 P, o320 P, o321 P, o322 P, o323 P, o324 P, o325 P, o326 P, o327 P, o328 P, o329 P, o330 P, o331 P, o332 P, o333 P, o334 P, o335 P, o336 P, o337 P, o338 P, o339 P, o340 P, o341 P, o342 P, o343 P, o344 P, o345 P, o346 P, o347 P, o348 P, o349 P, o350 P, o351 P, o352 P, o353 P, o354 P, o355 P, o356 P] ++ (
  [o357 P, o358 P, o359 P, o360 P, o361 P, o362 P, o363 P, o364 P, o365 P, o366 P, o367 P, o368 P, o369 P, o370 P, o371 P, o372 P, o373 P, o374 P, o375 P, o376 P, o377 P, o378 P, o379 P, o380 P, o381 P, o382 P, o383 P, o384 P, o385 P, o386 P, o387 P, o388 P, o389 P, o390 P, o391 P, o392 P, o393 P, o394 P, o395 P, o396 P] ++ (
  [o397 P, o398 P, o399 P, o400 P, o401 P, o402 P, o403 P, o404 P, o405 P, o406 P, o407 P, o408 P, o409 P, o410 P, o411 P, o412 P, o413 P, o414 P, o415 P, o416 P, o417 P, o418 P, o419 P, o420 P, o421 P, o422 P, o423 P, o424 P, o425 P, o426 P, o427 P, o428 P, o429 P, o430 P, o431 P, o432 P, o433 P, o434 P, o435 P, o436 P] ++ (
  [o437 P, o438 P, o439 P, o440 P, o441 P, o442 P, o443 P, o444 P, o445 P, o446 P, o447 P, o448 P, o449 P, o450 P, o451 P, o452 P, o453 P, o454 P, o455 P, o456 P, o457 P, o458 P, o459 P, o460 P, o461 P, o462 P, o463 P, o464 P, o465 P, o466 P, o467 P, o468 P, o469 P, o470 P, o471 P, o472 P, o473 P])))))))))))
def objs_f (P : Params) : List Obj :=
  [boot_o_0 P, boot_o_1 P, boot_o_2 P, o306 P, boot_o_4 P, boot_o_5 P, boot_o_6 P, boot_o_7 P, boot_o_8 P, boot_o_9 P, boot_o_10 P, o0 P, o307 P, o2 P, o3 P, o6 P, o7 P, o8 P, o9 P, o10 P, o11 P, o12 P, o13 P, o14 P, o15 P, o16 P, o17 P, o18 P, o19 P, o20 P, o21 P, o22 P, o23 P, o24 P, o25 P, o26 P, o27 P, o28 P, o29 P, o30 P] ++ (
  [o31 P, o32 P, o33 P, o34 P, o35 P, o36 P, o37 P, o38 P, o39 P, o40 P, o41 P, o42 P, o43 P, o44 P, o45 P, o46 P, o47 P, o48 P, o49 P, o50 P, o51 P, o52 P, o53 P, o54 P, o55 P, o56 P, o57 P, o58 P, o59 P, o60 P, o61 P, o62 P, o63 P, o64 P, o65 P, o66 P, o67 P, o68 P, o69 P, o70 P] ++ (
  [o71 P, o72 P, o73 P, o74 P, o75 P, o76 P, o77 P, o78 P, o79 P, o80 P, o81 P, o82 P, o85 P, o86 P, o87 P, o88 P, o89 P, o90 P, o91 P, o92 P, o93 P, o94 P, o95 P, o96 P, o97 P, o98 P, o99 P, o100 P, o101 P, o102 P, o103 P, o104 P, o105 P, o106 P, o107 P, o108 P, o109 P, o110 P, o111 P, o112 P] ++ (
  [o113 P, o114 P, o115 P, o116 P, o117 P, o118 P, o119 P, o120 P, o121 P, o122 P, o123 P, o124 P, o125 P, o126 P, o127 P, o128 P, o129 P, o130 P, o131 P, o132 P, o133 P, o134 P, o135 P, o136 P, o137 P, o138 P, o139 P, o140 P, o141 P, o142 P, o143 P, o144 P, o145 P, o146 P, o147 P, o148 P, o149 P, o150 P, o151 P, o152 P] ++ (
  [o153 P, o154 P, o155 P, o156 P, o157 P, o158 P, o159 P, o160 P, o161 P, o162 P, o163 P, o164 P, o165 P, o166 P, o167 P, o168 P, o169 P, o170 P, o171 P, o172 P, o173 P, o174 P, o175 P, o176 P, o177 P, o178 P, o179 P, o180 P, o181 P, o182 P, o183 P, o184 P, o185 P, o186 P, o187 P, o188 P, o189 P, o190 P, o191 P, o194 P] ++ (
  [o195 P, o196 P, o197 P, o198 P, o199 P, o200 P, o201 P, o202 P, o203 P, o204 P, o205 P, o206 P, o207 P, o208 P, o209 P, o210 P, o211 P, o212 P, o213 P, o214 P, o215 P, o216 P, o217 P, o218 P, o219 P, o220 P, o221 P, o222 P, o223 P, o224 P, o225 P, o226 P, o227 P, o228 P, o229 P, o230 P, o231 P, o232 P, o233 P, o234 P] ++ (
  [o235 P, o236 P, o237 P, o238 P, o239 P, o240 P, o241 P, o242 P, o243 P, o244 P, o245 P, o246 P, o247 P, o248 P, o249 P, o250 P, o251 P, o252 P, o253 P, o254 P, o255 P, o256 P, o257 P, o258 P, o259 P, o260 P, o261 P, o262 P, o263 P, o264 P, o265 P, o266 P, o267 P, o268 P, o269 P, o270 P, o271 P, o272 P, o273 P, o274 P] ++ (
  [o275 P, o276 P, o277 P, o278 P, o279 P, o280 P, o281 P, o282 P, o283 P, o284 P, o285 P, o286 P, o287 P, o288 P, o289 P, o290 P, o291 P, o292 P, o293 P, o294 P, o295 P, o296 P, o297 P, o298 P, o299 P, o300 P, o301 P, o302 P, o303 P, o304 P, o305 P, o308 P, o309 P, o310 P, o311 P, o312 P, o313 P, o314 P, o315 P, o316 P] ++ (
  [o317 P, o318 P, o319 P, o320 P, o321 P, o322 P, o323 P, o324 P, o325 P, o326 P, o327 P, o328 P, o329 P, o330 P, o331 P, o332 P, o333 P, o334 P, o335 P, o336 P, o337 P, o338 P, o339 P, o340 P, o341 P, o342 P, o343 P, o344 P, o345 P, o346 P, o347 P, o348 P, o349 P, o350 P, o351 P, o352 P, o353 P, o354 P, o355 P, o356 P] ++ (
  [o357 P, o358 P, o359 P, o360 P, o361 P, o362 P, o363 P, o364 P, o365 P, o366 P, o367 P, o368 P, o369 P, o370 P, o371 P, o372 P, o373 P, o374 P, o375 P, o376 P, o377 P, o378 P, o379 P, o380 P, o381 P, o382 P, o383 P, o384 P, o385 P, o386 P, o387 P, o388 P, o389 P, o390 P, o391 P, o392 P, o393 P, o394 P, o395 P, o396 P] ++ (
  [o397 P, o398 P, o399 P, o400 P, o401 P, o402 P, o403 P, o404 P, o405 P, o406 P, o407 P, o408 P, o409 P, o410 P, o411 P, o412 P, o413 P, o414 P, o415 P, o416 P, o417 P, o418 P, o419 P, o420 P, o421 P, o422 P, o423 P, o424 P, o425 P, o426 P, o427 P, o428 P, o429 P, o430 P, o431 P, o432 P, o433 P, o434 P, o435 P, o436 P] ++ (
  [o437 P, o438 P, o439 P, o440 P, o441 P, o442 P, o443 P, o444 P, o445 P, o446 P, o447 P, o448 P, o449 P, o450 P, o451 P, o452 P, o453 P, o454 P, o455 P, o456 P, o457 P, o458 P, o459 P, o460 P, o461 P, o462 P, o463 P, o464 P, o465 P, o466 P, o467 P, o468 P, o469 P, o470 P, o471 P, o472 P, o473 P])))))))))))
def KF (P : Params) : Frag := List.cons (nat_lit 2, boot_o_2 P) (
  List.cons (nat_lit 3, o306 P) (
  List.cons (nat_lit 15, o6 P) (
  List.cons (nat_lit 22, o13 P) (
  List.cons (nat_lit 24, o15 P) (
  List.cons (nat_lit 25, o16 P) (
  List.cons (nat_lit 27, o18 P) (
  List.cons (nat_lit 28, o19 P) (
  List.cons (nat_lit 29, o20 P) (
  List.cons (nat_lit 30, o21 P) (
  List.cons (nat_lit 31, o22 P) (
  List.cons (nat_lit 32, o23 P) (
  List.cons (nat_lit 35, o26 P) (
  List.cons (nat_lit 42, o33 P) (
  List.cons (nat_lit 44, o35 P) (
  List.cons (nat_lit 45, o36 P) (
  List.cons (nat_lit 47, o38 P) (
  List.cons (nat_lit 48, o39 P) (
  List.cons (nat_lit 49, o40 P) (
  List.cons (nat_lit 50, o41 P) (
  List.cons (nat_lit 51, o42 P) (
  List.cons (nat_lit 54, o45 P) (
  List.cons (nat_lit 61, o52 P) (
  List.cons (nat_lit 63, o54 P) (
  List.cons (nat_lit 64, o55 P) (
  List.cons (nat_lit 66, o57 P) (
  List.cons (nat_lit 67, o58 P) (
  List.cons (nat_lit 68, o59 P) (
  List.cons (nat_lit 69, o60 P) (
  List.cons (nat_lit 70, o61 P) (
  List.cons (nat_lit 73, o64 P) (
  List.cons (nat_lit 80, o71 P) (
  List.cons (nat_lit 82, o73 P) (
  List.cons (nat_lit 83, o74 P) (
  List.cons (nat_lit 85, o76 P) (
  List.cons (nat_lit 86, o77 P) (
  List.cons (nat_lit 87, o78 P) (
  List.cons (nat_lit 88, o79 P) (
  List.cons (nat_lit 89, o80 P) (
  List.cons (nat_lit 92, o85 P) (
  List.cons (nat_lit 99, o92 P) (
  List.cons (nat_lit 101, o94 P) (
  List.cons (nat_lit 102, o95 P) (
  List.cons (nat_lit 104, o97 P) (
  List.cons (nat_lit 105, o98 P) (
  List.cons (nat_lit 106, o99 P) (
  List.cons (nat_lit 107, o100 P) (
  List.cons (nat_lit 108, o101 P) (
  List.cons (nat_lit 109, o102 P) (
  List.cons (nat_lit 112, o105 P) (
  List.cons (nat_lit 119, o112 P) (
  List.cons (nat_lit 121, o114 P) (
  List.cons (nat_lit 122, o115 P) (
  List.cons (nat_lit 124, o117 P) (
  List.cons (nat_lit 125, o118 P) (
  List.cons (nat_lit 126, o119 P) (
  List.cons (nat_lit 127, o120 P) (
  List.cons (nat_lit 128, o121 P) (
  List.cons (nat_lit 131, o124 P) (
  List.cons (nat_lit 134, o127 P) (
  List.cons (nat_lit 135, o128 P) (
  List.cons (nat_lit 136, o129 P) (
  List.cons (nat_lit 138, o131 P) (
  List.cons (nat_lit 139, o132 P) (
  List.cons (nat_lit 141, o134 P) (
  List.cons (nat_lit 142, o135 P) (
  List.cons (nat_lit 143, o136 P) (
  List.cons (nat_lit 145, o138 P) (
  List.cons (nat_lit 146, o139 P) (
  List.cons (nat_lit 148, o141 P) (
  List.cons (nat_lit 149, o142 P) (
  List.cons (nat_lit 150, o143 P) (
  List.cons (nat_lit 152, o145 P) (
  List.cons (nat_lit 153, o146 P) (
  List.cons (nat_lit 155, o148 P) (
  List.cons (nat_lit 156, o149 P) (
  List.cons (nat_lit 157, o150 P) (
  List.cons (nat_lit 159, o152 P) (
  List.cons (nat_lit 160, o153 P) (
  List.cons (nat_lit 162, o155 P) (
  List.cons (nat_lit 163, o156 P) (
  List.cons (nat_lit 164, o157 P) (
  List.cons (nat_lit 166, o159 P) (
  List.cons (nat_lit 167, o160 P) (
  List.cons (nat_lit 169, o162 P) (
  List.cons (nat_lit 170, o163 P) (
  List.cons (nat_lit 171, o164 P) (
  List.cons (nat_lit 173, o166 P) (
  List.cons (nat_lit 174, o167 P) (
  List.cons (nat_lit 176, o169 P) (
  List.cons (nat_lit 177, o170 P) (
  List.cons (nat_lit 178, o171 P) (
  List.cons (nat_lit 180, o173 P) (
  List.cons (nat_lit 181, o174 P) (
  List.cons (nat_lit 183, o176 P) (
  List.cons (nat_lit 184, o177 P) (
  List.cons (nat_lit 185, o178 P) (
  List.cons (nat_lit 187, o180 P) (
  List.cons (nat_lit 188, o181 P) (
  List.cons (nat_lit 190, o183 P) (
  List.cons (nat_lit 191, o184 P) (
  List.cons (nat_lit 192, o185 P) (
  List.cons (nat_lit 194, o187 P) (
  List.cons (nat_lit 195, o188 P) (
  List.cons (nat_lit 197, o190 P) (
  List.cons (nat_lit 198, o191 P) (
  List.cons (nat_lit 206, o201 P) (
  List.cons (nat_lit 208, o203 P) (
  List.cons (nat_lit 209, o204 P) (
  List.cons (nat_lit 211, o206 P) (
  List.cons (nat_lit 212, o207 P) (
  List.cons (nat_lit 213, o208 P) (
  List.cons (nat_lit 215, o210 P) (
  List.cons (nat_lit 216, o211 P) (
  List.cons (nat_lit 218, o213 P) (
  List.cons (nat_lit 219, o214 P) (
  List.cons (nat_lit 220, o215 P) (
  List.cons (nat_lit 222, o217 P) (
  List.cons (nat_lit 223, o218 P) (
  List.cons (nat_lit 225, o220 P) (
  List.cons (nat_lit 226, o221 P) (
  List.cons (nat_lit 227, o222 P) (
  List.cons (nat_lit 229, o224 P) (
  List.cons (nat_lit 230, o225 P) (
  List.cons (nat_lit 232, o227 P) (
  List.cons (nat_lit 233, o228 P) (
  List.cons (nat_lit 234, o229 P) (
  List.cons (nat_lit 235, o230 P) (
  List.cons (nat_lit 236, o231 P) (
  List.cons (nat_lit 237, o232 P) (
  List.cons (nat_lit 238, o233 P) (
  List.cons (nat_lit 248, o243 P) (
  List.cons (nat_lit 250, o245 P) (
  List.cons (nat_lit 251, o246 P) (
  List.cons (nat_lit 253, o248 P) (
  List.cons (nat_lit 254, o249 P) (
  List.cons (nat_lit 255, o250 P) (
  List.cons (nat_lit 257, o252 P) (
  List.cons (nat_lit 258, o253 P) (
  List.cons (nat_lit 260, o255 P) (
  List.cons (nat_lit 261, o256 P) (
  List.cons (nat_lit 262, o257 P) (
  List.cons (nat_lit 264, o259 P) (
  List.cons (nat_lit 265, o260 P) (
  List.cons (nat_lit 267, o262 P) (
  List.cons (nat_lit 268, o263 P) (
  List.cons (nat_lit 269, o264 P) (
  List.cons (nat_lit 271, o266 P) (
  List.cons (nat_lit 272, o267 P) (
  List.cons (nat_lit 274, o269 P) (
  List.cons (nat_lit 275, o270 P) (
  List.cons (nat_lit 276, o271 P) (
  List.cons (nat_lit 278, o273 P) (
  List.cons (nat_lit 279, o274 P) (
  List.cons (nat_lit 281, o276 P) (
  List.cons (nat_lit 282, o277 P) (
  List.cons (nat_lit 283, o278 P) (
  List.cons (nat_lit 284, o279 P) (
  List.cons (nat_lit 285, o280 P) (
  List.cons (nat_lit 286, o281 P) (
  List.cons (nat_lit 287, o282 P) (
  List.cons (nat_lit 297, o292 P) (
  List.cons (nat_lit 299, o294 P) (
  List.cons (nat_lit 300, o295 P) (
  List.cons (nat_lit 302, o297 P) (
  List.cons (nat_lit 303, o298 P) (
  List.cons (nat_lit 304, o299 P) (
  List.cons (nat_lit 305, o300 P) (
  List.cons (nat_lit 306, o301 P) (
  List.cons (nat_lit 307, o302 P) (
  List.cons (nat_lit 308, o303 P) (
  List.cons (nat_lit 318, o315 P) (
  List.cons (nat_lit 320, o317 P) (
  List.cons (nat_lit 321, o318 P) (
  List.cons (nat_lit 323, o320 P) (
  List.cons (nat_lit 324, o321 P) (
  List.cons (nat_lit 325, o322 P) (
  List.cons (nat_lit 327, o324 P) (
  List.cons (nat_lit 328, o325 P) (
  List.cons (nat_lit 330, o327 P) (
  List.cons (nat_lit 331, o328 P) (
  List.cons (nat_lit 332, o329 P) (
  List.cons (nat_lit 334, o331 P) (
  List.cons (nat_lit 335, o332 P) (
  List.cons (nat_lit 337, o334 P) (
  List.cons (nat_lit 338, o335 P) (
  List.cons (nat_lit 339, o336 P) (
  List.cons (nat_lit 341, o338 P) (
  List.cons (nat_lit 342, o339 P) (
  List.cons (nat_lit 344, o341 P) (
  List.cons (nat_lit 345, o342 P) (
  List.cons (nat_lit 346, o343 P) (
  List.cons (nat_lit 348, o345 P) (
  List.cons (nat_lit 349, o346 P) (
  List.cons (nat_lit 351, o348 P) (
  List.cons (nat_lit 352, o349 P) (
  List.cons (nat_lit 353, o350 P) (
  List.cons (nat_lit 355, o352 P) (
  List.cons (nat_lit 356, o353 P) (
  List.cons (nat_lit 358, o355 P) (
  List.cons (nat_lit 359, o356 P) (
  List.cons (nat_lit 360, o357 P) (
  List.cons (nat_lit 362, o359 P) (
  List.cons (nat_lit 363, o360 P) (
  List.cons (nat_lit 365, o362 P) (
  List.cons (nat_lit 366, o363 P) (
  List.cons (nat_lit 367, o364 P) (
  List.cons (nat_lit 368, o365 P) (
  List.cons (nat_lit 369, o366 P) (
  List.cons (nat_lit 370, o367 P) (
  List.cons (nat_lit 371, o368 P) (
  List.cons (nat_lit 374, o371 P) (
  List.cons (nat_lit 376, o373 P) (
  List.cons (nat_lit 377, o374 P) (
  List.cons (nat_lit 379, o376 P) (
  List.cons (nat_lit 380, o377 P) (
  List.cons (nat_lit 381, o378 P) (
  List.cons (nat_lit 382, o379 P) (
  List.cons (nat_lit 384, o381 P) (
  List.cons (nat_lit 385, o382 P) (
  List.cons (nat_lit 387, o384 P) (
  List.cons (nat_lit 388, o385 P) (
  List.cons (nat_lit 389, o386 P) (
  List.cons (nat_lit 390, o387 P) (
  List.cons (nat_lit 392, o389 P) (
  List.cons (nat_lit 393, o390 P) (
  List.cons (nat_lit 395, o392 P) (
  List.cons (nat_lit 396, o393 P) (
  List.cons (nat_lit 397, o394 P) (
  List.cons (nat_lit 400, o397 P) (
  List.cons (nat_lit 401, o398 P) (
  List.cons (nat_lit 402, o399 P) (
  List.cons (nat_lit 404, o401 P) (
  List.cons (nat_lit 405, o402 P) (
  List.cons (nat_lit 407, o404 P) (
  List.cons (nat_lit 408, o405 P) (
  List.cons (nat_lit 409, o406 P) (
  List.cons (nat_lit 411, o408 P) (
  List.cons (nat_lit 412, o409 P) (
  List.cons (nat_lit 414, o411 P) (
  List.cons (nat_lit 415, o412 P) (
  List.cons (nat_lit 416, o413 P) (
  List.cons (nat_lit 418, o415 P) (
  List.cons (nat_lit 419, o416 P) (
  List.cons (nat_lit 421, o418 P) (
  List.cons (nat_lit 422, o419 P) (
  List.cons (nat_lit 423, o420 P) (
  List.cons (nat_lit 425, o422 P) (
  List.cons (nat_lit 426, o423 P) (
  List.cons (nat_lit 428, o425 P) (
  List.cons (nat_lit 429, o426 P) (
  List.cons (nat_lit 430, o427 P) (
  List.cons (nat_lit 432, o429 P) (
  List.cons (nat_lit 433, o430 P) (
  List.cons (nat_lit 435, o432 P) (
  List.cons (nat_lit 436, o433 P) (
  List.cons (nat_lit 437, o434 P) (
  List.cons (nat_lit 440, o437 P) (
  List.cons (nat_lit 441, o438 P) (
  List.cons (nat_lit 442, o439 P) (
  List.cons (nat_lit 444, o441 P) (
  List.cons (nat_lit 445, o442 P) (
  List.cons (nat_lit 447, o444 P) (
  List.cons (nat_lit 448, o445 P) (
  List.cons (nat_lit 449, o446 P) (
  List.cons (nat_lit 451, o448 P) (
  List.cons (nat_lit 452, o449 P) (
  List.cons (nat_lit 454, o451 P) (
  List.cons (nat_lit 455, o452 P) (
  List.cons (nat_lit 456, o453 P) (
  List.cons (nat_lit 458, o455 P) (
  List.cons (nat_lit 459, o456 P) (
  List.cons (nat_lit 461, o458 P) (
  List.cons (nat_lit 462, o459 P) (
  List.cons (nat_lit 463, o460 P) (
  List.cons (nat_lit 465, o462 P) (
  List.cons (nat_lit 466, o463 P) (
  List.cons (nat_lit 468, o465 P) (
  List.cons (nat_lit 469, o466 P) (
  List.cons (nat_lit 470, o467 P) (
  List.cons (nat_lit 472, o469 P) (
  List.cons (nat_lit 473, o470 P) (
  List.cons (nat_lit 475, o472 P) (
  List.cons (nat_lit 476, o473 P) (
  List.nil))))))))))))))))))))))))))))))))))))))))))))))))))))))))))))))))))))))))))))))))))))))))))))))))))))))))))))))))))))))))))))))))))))))))))))))))))))))))))))))))))))))))))))))))))))))))))))))))))))))))))))))))))))))))))))))))))))))))))))))))))))))))))))))))))))))))))))))))))))))))))))
def KA : List Addr := [2, 3, 15, 22, 24, 25, 27, 28, 29, 30, 31, 32, 35, 42, 44, 45, 47, 48, 49, 50, 51, 54, 61, 63, 64, 66, 67, 68, 69, 70, 73, 80, 82, 83, 85, 86, 87, 88, 89, 92, 99, 101, 102, 104, 105, 106, 107, 108, 109, 112, 119, 121, 122, 124, 125, 126, 127, 128, 131, 134, 135, 136, 138, 139, 141, 142, 143, 145, 146, 148, 149, 150, 152, 153, 155, 156, 157, 159, 160, 162, 163, 164, 166, 167, 169, 170, 171, 173, 174, 176, 177, 178, 180, 181, 183, 184, 185, 187, 188, 190, 191, 192, 194, 195, 197, 198, 206, 208, 209, 211, 212, 213, 215, 216, 218, 219, 220, 222, 223, 225, 226, 227, 229, 230, 232, 233, 234, 235, 236, 237, 238, 248, 250, 251, 253, 254, 255, 257, 258, 260, 261, 262, 264, 265, 267, 268, 269, 271, 272, 274, 275, 276, 278, 279, 281, 282, 283, 284, 285, 286, 287, 297, 299, 300, 302, 303, 304, 305, 306, 307, 308, 318, 320, 321, 323, 324, 325, 327, 328, 330, 331, 332, 334, 335, 337, 338, 339, 341, 342, 344, 345, 346, 348, 349, 351, 352, 353, 355, 356, 358, 359, 360, 362, 363, 365, 366, 367, 368, 369, 370, 371, 374, 376, 377, 379, 380, 381, 382, 384, 385, 387, 388, 389, 390, 392, 393, 395, 396, 397, 400, 401, 402, 404, 405, 407, 408, 409, 411, 412, 414, 415, 416, 418, 419, 421, 422, 423, 425, 426, 428, 429, 430, 432, 433, 435, 436, 437, 440, 441, 442, 444, 445, 447, 448, 449, 451, 452, 454, 455, 456, 458, 459, 461, 462, 463, 465, 466, 468, 469, 470, 472, 473, 475, 476]
abbrev qv : Program := view pw [1, 2, 3, 4, 5, 6, 8, 9, 10, 11, 12, 13, 14, 15, 16, 17, 18, 19, 20, 21, 22, 23, 24, 26, 27, 28, 29, 30, 31, 32, 36, 37, 38, 39, 40, 41, 42, 43, 44, 45, 46, 47]
def names : List PySem.Str := [(S "MOST_TIMES"), (S "MOST_DONE"), (S "many_done"), (S "spelled")]
def env : Env := ⟨pw.main.scope, mainNs, mainNs, [], PySem.Str.empty, none, (.ref 13), some 14, 0⟩
def bod : List Stmt := behindTheImports pw
abbrev cE : Code := .body bod env
theorem r_a (w : World) (os : OsState) : goG (mq pw w) 11 (some (.ref 6)) 12 (stL w (boot_heap w.params).objs.toList boot_toks os) (topStub pw) = some ((stL w (objs_a w.params) 187 os), ⟨denQ tabQ cE, cE, ⟨0, 0, 0, 0⟩, [topFrame ⟨0, 0, 0, 0⟩]⟩) := by kernel_rfl
theorem r_b (w : World) (os : OsState) : goS (mq pw w) 11 (some (.ref 6)) 1 (stL w (objs_a w.params) 187 os) (thB bod env cE ⟨0, 0, 0, 0⟩ ⟨0, 0, 0, 0⟩) = some (.next, (stL w (objs_b w.params) 187 os), cE, ⟨0, 0, 0, 0⟩) := by kernel_rfl
def l_0 : List Stmt := (pw.main.body.drop 0).take 5
theorem r_0 (w : World) (os : OsState) : goS (mq pw w) 11 (some (.ref 6)) 961 (stL w (objs_b w.params) 187 os) (thS l_0 env cE ⟨0, 0, 0, 0⟩ ⟨0, 0, 0, 0⟩) = some (.next, (stL w (objs_0 w.params) 289 os), cE, ⟨16, 0, 20, 24⟩) := by kernel_rfl
def l_1 : List Stmt := (pw.main.body.drop 5).take 23
theorem r_1 (w : World) (os : OsState) : goS (mq pw w) 11 (some (.ref 6)) 869 (stL w (objs_0 w.params) 289 os) (thS l_1 env cE ⟨16, 0, 20, 24⟩ ⟨0, 0, 0, 0⟩) = some (.next, (stL w (objs_1 w.params) 443 os), cE, ⟨82, 0, 82, 11⟩) := by kernel_rfl
def l_2 : List Stmt := (pw.main.body.drop 28).take 3
theorem r_2 (w : World) (os : OsState) : goS (mq pw w) 11 (some (.ref 6)) 898 (stL w (objs_1 w.params) 443 os) (thS l_2 env cE ⟨82, 0, 82, 11⟩ ⟨0, 0, 0, 0⟩) = some (.next, (stL w (objs_2 w.params) 593 os), cE, ⟨116, 0, 122, 26⟩) := by kernel_rfl
def l_3 : List Stmt := (pw.main.body.drop 31).take 17
theorem r_3 (w : World) (os : OsState) : goS (mq pw w) 11 (some (.ref 6)) 914 (stL w (objs_2 w.params) 593 os) (thS l_3 env cE ⟨116, 0, 122, 26⟩ ⟨0, 0, 0, 0⟩) = some (.next, (stL w (objs_3 w.params) 823 os), cE, ⟨261, 0, 288, 119⟩) := by kernel_rfl
theorem r_f (w : World) (os : OsState) : goF (mq pw w) 11 (some (.ref 6)) 2 (stL w (objs_3 w.params) 823 os) ⟨doneF .next, cE, ⟨261, 0, 288, 119⟩, [topFrame ⟨0, 0, 0, 0⟩]⟩ = some (stL w (objs_f w.params) 823 os) := by kernel_rfl
theorem bod_is : bod = l_0 ++ (l_1 ++ (l_2 ++ (l_3 ++ ([])))) := by kernel_rfl
theorem run_all (w : World) (os : OsState) : topRun treeTable pw w 11 (some (.ref 6)) (12 + (1 + (961 + (869 + (898 + (914 + 2)))))) (stL w (boot_heap w.params).objs.toList boot_toks os).abs (topStub pw) = some (stL w (objs_f w.params) 823 os).abs := by
  refine run_top (b := bod) (env := env) (r_a w os) (r_b w os) ?_
  have z := run_seg (r_0 w os) (run_seg (r_1 w os) (run_seg (r_2 w os) (run_seg (r_3 w os) (run_end (r_f w os)))))
  have e : restOf bod env cE ⟨0, 0, 0, 0⟩ [topFrame ⟨0, 0, 0, 0⟩] = restOf (l_0 ++ (l_1 ++ (l_2 ++ (l_3 ++ ([]))))) env cE ⟨0, 0, 0, 0⟩ [topFrame ⟨0, 0, 0, 0⟩] := congrArg (fun b => restOf b env cE ⟨0, 0, 0, 0⟩ [topFrame ⟨0, 0, 0, 0⟩]) bod_is
  rw [e]
  exact z
theorem ka_is (P : Params) : KA = (KF P).map (·.1) := by kernel_rfl
def KT : List Addr := [471]
abbrev hk : Hook := kmHook KF KA ka_is KT
def ob (S : SharedT) : hk.α := (KA.map (getT S), KT.map (getT S))
theorem ob_is (S : SharedT) : ob S = hk.obs S.abs := Prod.ext (obK S) (obK S)
theorem k_1 (w : World) (os : OsState) : looksF pw (boot_heap w.params) (stL w (objs_f w.params) 823 os).abs = true := by kernel_rfl
theorem s_0 (w : World) (os : OsState) : (seenQ qv names (importedModules pw.main.body) (fun s => xlAt qv lv s && recOk (OpenLaw.row rw_).toRowW.records s) (stL w (objs_f w.params) 823 os).abs).1 = expectedOf qv := by kernel_rfl
theorem s_1 (w : World) (os : OsState) : (seenQ qv names (importedModules pw.main.body) (fun s => xlAt qv lv s && recOk (OpenLaw.row rw_).toRowW.records s) (stL w (objs_f w.params) 823 os).abs).2.1 = bltViewBooted := by kernel_rfl
theorem s_2 (w : World) (os : OsState) : (seenQ qv names (importedModules pw.main.body) (fun s => xlAt qv lv s && recOk (OpenLaw.row rw_).toRowW.records s) (stL w (objs_f w.params) 823 os).abs).2.2.1 = true := by kernel_rfl
theorem s_3 (w : World) (os : OsState) : (seenQ qv names (importedModules pw.main.body) (fun s => xlAt qv lv s && recOk (OpenLaw.row rw_).toRowW.records s) (stL w (objs_f w.params) 823 os).abs).2.2.2.1 = true := by kernel_rfl
theorem s_4 (w : World) (os : OsState) : (seenQ qv names (importedModules pw.main.body) (fun s => xlAt qv lv s && recOk (OpenLaw.row rw_).toRowW.records s) (stL w (objs_f w.params) 823 os).abs).2.2.2.2.1 = pinGoodD (drecsOf qv) := by kernel_rfl
theorem s_5 (w : World) (os : OsState) : (seenQ qv names (importedModules pw.main.body) (fun s => xlAt qv lv s && recOk (OpenLaw.row rw_).toRowW.records s) (stL w (objs_f w.params) 823 os).abs).2.2.2.2.2.1 = plainGoodE qv (looseW qv names) := by kernel_rfl
theorem s_6 (w : World) (os : OsState) : (seenQ qv names (importedModules pw.main.body) (fun s => xlAt qv lv s && recOk (OpenLaw.row rw_).toRowW.records s) (stL w (objs_f w.params) 823 os).abs).2.2.2.2.2.2.1 = plainGoodD qv names := by kernel_rfl
theorem s_7 (w : World) (os : OsState) : (seenQ qv names (importedModules pw.main.body) (fun s => xlAt qv lv s && recOk (OpenLaw.row rw_).toRowW.records s) (stL w (objs_f w.params) 823 os).abs).2.2.2.2.2.2.2.1 = wideGood qv := by kernel_rfl
theorem s_8 (w : World) (os : OsState) : (seenQ qv names (importedModules pw.main.body) (fun s => xlAt qv lv s && recOk (OpenLaw.row rw_).toRowW.records s) (stL w (objs_f w.params) 823 os).abs).2.2.2.2.2.2.2.2 = clsGoodW qv names := by kernel_rfl
theorem k_3 (w : World) (os : OsState) : ob (stL w (objs_f w.params) 823 os) = hk.val w := by kernel_rfl
theorem looks (w : World) (os : OsState) : (fun S : SharedT => (looksF pw (boot_heap w.params) S.abs, seenQ qv names (importedModules pw.main.body) (fun s => xlAt qv lv s && recOk (OpenLaw.row rw_).toRowW.records s) S.abs, ob S)) (stL w (objs_f w.params) 823 os) = (true, openGood qv names, hk.val w) :=
  Prod.ext (k_1 w os) (Prod.ext (Prod.ext (s_0 w os) (Prod.ext (s_1 w os) (Prod.ext (s_2 w os) (Prod.ext (s_3 w os) (Prod.ext (s_4 w os) (Prod.ext (s_5 w os) (Prod.ext (s_6 w os) (Prod.ext (s_7 w os) (s_8 w os))))))))) (k_3 w os))
theorem left : LeftO pw qv names (fun s => xlAt qv lv s && recOk (OpenLaw.row rw_).toRowW.records s) hk.obs hk.val 4357 true :=
  left_cut (F := objs_f) (kF := 823) (lo := 11) (an := (some (.ref 6))) (M := (12 + (1 + (961 + (869 + (898 + (914 + 2))))))) ob_is (by kernel_rfl) (by rfl) (fun s => by kernel_rfl) (by kernel_rfl) (fun w => by kernel_rfl) (fun w => by kernel_rfl) run_all (fun w os => looks w os)
end HX
end
open PySem PySem.W PyProof.Rows
set_option maxHeartbeats 0 in
theorem PySem.Challenge.cw_nearcall_k31_how_many_steps_holds : PySem.Challenge.rw_nearcall_k31_how_many_steps.Holds := by
  w_on; o_law
  refine holds_open (r := OpenLaw.row PySem.Challenge.rw_nearcall_k31_how_many_steps) (q := HX.qv) (loose := HX.names)
    (Xt := fun s => xlAt HX.qv HX.lv s && recOk (OpenLaw.row PySem.Challenge.rw_nearcall_k31_how_many_steps).toRowW.records s)
    (XP := XL HX.qv HX.lv) (Yf := (kmHook HX.KF HX.KA HX.ka_is HX.KT).obs) (Ya := (kmHook HX.KF HX.KA HX.ka_is HX.KT).val) (YP := (kmHook HX.KF HX.KA HX.ka_is HX.KT).says)
    (kwd := []) HX.left (kmHook HX.KF HX.KA HX.ka_is HX.KT).of (kmHook HX.KF HX.KA HX.ka_is HX.KT).keeps
    (fun s z => xl_of s (Bool.and_eq_true_iff.mp z).1) XL.keeps
    (by rfl) (by rfl) (by rfl)
    (fun s z => recFacts_of (Bool.and_eq_true_iff.mp z).2)
    (by rfl) (by first | assumption | decide +kernel) (by decide +kernel)
    ⟨rfl, rfl, rfl, rfl, rfl, by decide +kernel⟩ ?hw ?hc
  case hw => w_witness2
  k_fill
  refine LamX.walk_ofTs (l := PySem.Challenge.rw_nearcall_k31_how_many_steps) (n := 63) (k := 37) (x := "_law_script") (CX := fun w => L2.CX0) rfl (by decide) rfl ⟨rfl, by decide, by decide⟩ (fun w h Y => PySem.W.km_in_of Y) ?F (fun _ _ _ _ _ h => h)
  case F =>
    intro w mg fa h Y KX G hmg
    refine' NC.all_mk (PT := 471) KX G hmg (PySem.W.km_tabs_of Y 471 (by k_mem)) ?nPT ?a_w ?l_w ?c_w ?k_w ?a_n ?l_n ?c_n ?k_n ?a_nu ?l_nu ?c_nu ?k_nu ?a_tu ?l_tu ?c_tu ?k_tu ?a_pl ?l_pl ?c_pl ?k_pl ?a_gh ?l_gh ?c_gh ?k_gh ?a_ls ?l_ls ?c_ls ?k_ls ?a_lb ?l_lb ?c_lb ?k_lb ?a_ir ?l_ir ?c_ir ?k_ir ?a_of ?l_of ?c_of ?k_of ?a_draw ?l_draw ?c_draw ?k_draw ?a_letters ?l_letters ?c_letters ?k_letters ?a_number ?l_number ?c_number ?k_number ?a_names ?l_names ?c_names ?k_names ?a_flat ?l_flat ?c_flat ?k_flat ?a_count ?l_count ?c_count ?k_count ?a_tower ?l_tower ?c_tower ?k_tower ?a_cr ?l_cr ?c_cr ?k_cr ?a_ma ?l_ma ?c_ma ?k_ma ?a_my ?l_my ?c_my ?k_my ?a_sp ?l_sp ?c_sp ?k_sp ?a_same ?l_same ?c_same ?k_same ?a_start ?l_start ?c_start ?k_start ?a_told ?l_told ?c_told ?k_told ?a_CH ?a_CT ?i_H ?r_H ?g_H ?v_V ?x_CT ?rv_CT ?sa_CT ?ga_CT ?gg_CT ?hd_CT ?ex_CT ?ty_CT ?kc_CT ?i_CT ?t_CT ?n_CT_word ?n_CT_most ?l_iH ?c_iH ?k_iH ?l_iT ?c_iT ?k_iT ?e_CT_CT ?ic_CT ?a_CC ?i_CC ?pg_CC ?hd_CC ?po_CC ?sa_CC ?mk_CC ?kp_CC ?b_cno ?m_cno ?l_cno ?c_cno ?k_cno ?b_cof ?m_cof ?l_cof ?c_cof ?k_cof ?b_cjn ?m_cjn ?l_cjn ?c_cjn ?k_cjn ?b_crp ?m_crp ?l_crp ?c_crp ?k_crp ?a_LC ?i_LC ?j_LC ?pg_LC ?hd_LC ?po_LC ?sa_LC ?mk_LC ?kp_LC ?n1_LC ?b_lno ?m_lno ?l_lno ?c_lno ?k_lno ?b_lof ?m_lof ?l_lof ?c_lof ?k_lof ?b_ljn ?m_ljn ?l_ljn ?c_ljn ?k_ljn ?b_lrp ?m_lrp ?l_lrp ?c_lrp ?k_lrp ?l_lin ?c_lin ?k_lin ?a_SC ?i_SC ?j_SC ?pg_SC ?hd_SC ?po_SC ?sa_SC ?mk_SC ?kp_SC ?n1_SC ?n2_SC ?n3_SC ?n4_SC ?l_sSi ?c_sSi ?k_sSi ?a_RC ?i_RC ?j_RC ?pg_RC ?hd_RC ?po_RC ?sa_RC ?mk_RC ?kp_RC ?n1_RC ?n2_RC ?n3_RC ?n4_RC ?b_rbe ?m_rbe ?l_rbe ?c_rbe ?k_rbe ?b_rad ?m_rad ?l_rad ?c_rad ?k_rad ?b_rdo ?m_rdo ?l_rdo ?c_rdo ?k_rdo ?b_rst ?m_rst ?l_rst ?c_rst ?k_rst ?b_rfi ?m_rfi ?l_rfi ?c_rfi ?k_rfi ?b_rwo ?m_rwo ?l_rwo ?c_rwo ?k_rwo ?l_rRi ?c_rRi ?k_rRi ?w_my ?w_sb ?w_sm ?z_list ?z_sorted ?z_set ?z_all ?z_len ?z_enumerate ?z_range ?z_isinstance ?z_tuple ?z_ValueError ?z_bool ?z_str ?z_int ?z_min ?z_max ?e_wSMALL ?e_wLETTERS ?e_wMOST_STEPS ?e_wMOST_DEEP ?e_wMOST_TIMES ?e_wMOST_SIDES ?e_wLONGEST_NAME ?e_wMOST_DONE ?e_wMOST_LISTED ?a_L ?l_L ?c_L ?h_L
    (case nPT => kernel_rfl)
    (case a_w => k_is)
    (case l_w => k_is)
    (case c_w => k_is)
    (case k_w => k_is)
    (case a_n => k_is)
    (case l_n => k_is)
    (case c_n => k_is)
    (case k_n => k_is)
    (case a_nu => k_is)
    (case l_nu => k_is)
    (case c_nu => k_is)
    (case k_nu => k_is)
    (case a_tu => k_is)
    (case l_tu => k_is)
    (case c_tu => k_is)
    (case k_tu => k_is)
    (case a_pl => k_is)
    (case l_pl => k_is)
    (case c_pl => k_is)
    (case k_pl => k_is)
    (case a_gh => k_is)
    (case l_gh => k_is)
    (case c_gh => k_is)
    (case k_gh => k_is)
    (case a_ls => k_is)
    (case l_ls => k_is)
    (case c_ls => k_is)
    (case k_ls => k_is)
    (case a_lb => k_is)
    (case l_lb => k_is)
    (case c_lb => k_is)
    (case k_lb => k_is)
    (case a_ir => k_is)
    (case l_ir => k_is)
    (case c_ir => k_is)
    (case k_ir => k_is)
    (case a_of => k_is)
    (case l_of => k_is)
    (case c_of => k_is)
    (case k_of => k_is)
    (case a_draw => k_is)
    (case l_draw => k_is)
    (case c_draw => k_is)
    (case k_draw => k_is)
    (case a_letters => k_is)
    (case l_letters => k_is)
    (case c_letters => k_is)
    (case k_letters => k_is)
    (case a_number => k_is)
    (case l_number => k_is)
    (case c_number => k_is)
    (case k_number => k_is)
    (case a_names => k_is)
    (case l_names => k_is)
    (case c_names => k_is)
    (case k_names => k_is)
    (case a_flat => k_is)
    (case l_flat => k_is)
    (case c_flat => k_is)
    (case k_flat => k_is)
    (case a_count => k_is)
    (case l_count => k_is)
    (case c_count => k_is)
    (case k_count => k_is)
    (case a_tower => k_is)
    (case l_tower => k_is)
    (case c_tower => k_is)
    (case k_tower => k_is)
    (case a_cr => k_is)
    (case l_cr => k_is)
    (case c_cr => k_is)
    (case k_cr => k_is)
    (case a_ma => k_is)
    (case l_ma => k_is)
    (case c_ma => k_is)
    (case k_ma => k_is)
    (case a_my => k_is)
    (case l_my => k_is)
    (case c_my => k_is)
    (case k_my => k_is)
    (case a_sp => k_is)
    (case l_sp => k_is)
    (case c_sp => k_is)
    (case k_sp => k_is)
    (case a_same => k_is)
    (case l_same => k_is)
    (case c_same => k_is)
    (case k_same => k_is)
    (case a_start => k_is)
    (case l_start => k_is)
    (case c_start => k_is)
    (case k_start => k_is)
    (case a_told => k_is)
    (case l_told => k_is)
    (case c_told => k_is)
    (case k_told => k_is)
    (case a_CH => k_is)
    (case a_CT => k_is)
    (case i_H => k_is)
    (case r_H => k_is)
    (case g_H => k_is)
    (case v_V => k_is)
    (case x_CT => k_is)
    (case rv_CT => decide +kernel)
    (case sa_CT => k_is)
    (case ga_CT => k_is)
    (case gg_CT => k_is)
    (case hd_CT => k_is)
    (case ex_CT => k_is)
    (case ty_CT => k_is)
    (case kc_CT => k_is)
    (case i_CT => k_is)
    (case t_CT => k_is)
    (case n_CT_word => k_is)
    (case n_CT_most => k_is)
    (case l_iH => k_is)
    (case c_iH => k_is)
    (case k_iH => k_is)
    (case l_iT => k_is)
    (case c_iT => k_is)
    (case k_iT => k_is)
    (case e_CT_CT => first | k_is | kernel_rfl)
    (case ic_CT => k_is)
    (case a_CC => k_is)
    (case i_CC => k_is)
    (case pg_CC => k_is)
    (case hd_CC => k_is)
    (case po_CC => k_is)
    (case sa_CC => k_is)
    (case mk_CC => k_is)
    (case kp_CC => k_is)
    (case b_cno => k_is)
    (case m_cno => k_is)
    (case l_cno => k_is)
    (case c_cno => k_is)
    (case k_cno => k_is)
    (case b_cof => k_is)
    (case m_cof => k_is)
    (case l_cof => k_is)
    (case c_cof => k_is)
    (case k_cof => k_is)
    (case b_cjn => k_is)
    (case m_cjn => k_is)
    (case l_cjn => k_is)
    (case c_cjn => k_is)
    (case k_cjn => k_is)
    (case b_crp => k_is)
    (case m_crp => k_is)
    (case l_crp => k_is)
    (case c_crp => k_is)
    (case k_crp => k_is)
    (case a_LC => k_is)
    (case i_LC => k_is)
    (case j_LC => k_is)
    (case pg_LC => k_is)
    (case hd_LC => k_is)
    (case po_LC => k_is)
    (case sa_LC => k_is)
    (case mk_LC => k_is)
    (case kp_LC => k_is)
    (case n1_LC => k_is)
    (case b_lno => k_is)
    (case m_lno => k_is)
    (case l_lno => k_is)
    (case c_lno => k_is)
    (case k_lno => k_is)
    (case b_lof => k_is)
    (case m_lof => k_is)
    (case l_lof => k_is)
    (case c_lof => k_is)
    (case k_lof => k_is)
    (case b_ljn => k_is)
    (case m_ljn => k_is)
    (case l_ljn => k_is)
    (case c_ljn => k_is)
    (case k_ljn => k_is)
    (case b_lrp => k_is)
    (case m_lrp => k_is)
    (case l_lrp => k_is)
    (case c_lrp => k_is)
    (case k_lrp => k_is)
    (case l_lin => k_is)
    (case c_lin => k_is)
    (case k_lin => k_is)
    (case a_SC => k_is)
    (case i_SC => k_is)
    (case j_SC => k_is)
    (case pg_SC => k_is)
    (case hd_SC => k_is)
    (case po_SC => k_is)
    (case sa_SC => k_is)
    (case mk_SC => k_is)
    (case kp_SC => k_is)
    (case n1_SC => k_is)
    (case n2_SC => k_is)
    (case n3_SC => k_is)
    (case n4_SC => k_is)
    (case l_sSi => k_is)
    (case c_sSi => k_is)
    (case k_sSi => k_is)
    (case a_RC => k_is)
    (case i_RC => k_is)
    (case j_RC => k_is)
    (case pg_RC => k_is)
    (case hd_RC => k_is)
    (case po_RC => k_is)
    (case sa_RC => k_is)
    (case mk_RC => k_is)
    (case kp_RC => k_is)
    (case n1_RC => k_is)
    (case n2_RC => k_is)
    (case n3_RC => k_is)
    (case n4_RC => k_is)
    (case b_rbe => k_is)
    (case m_rbe => k_is)
    (case l_rbe => k_is)
    (case c_rbe => k_is)
    (case k_rbe => k_is)
    (case b_rad => k_is)
    (case m_rad => k_is)
    (case l_rad => k_is)
    (case c_rad => k_is)
    (case k_rad => k_is)
    (case b_rdo => k_is)
    (case m_rdo => k_is)
    (case l_rdo => k_is)
    (case c_rdo => k_is)
    (case k_rdo => k_is)
    (case b_rst => k_is)
    (case m_rst => k_is)
    (case l_rst => k_is)
    (case c_rst => k_is)
    (case k_rst => k_is)
    (case b_rfi => k_is)
    (case m_rfi => k_is)
    (case l_rfi => k_is)
    (case c_rfi => k_is)
    (case k_rfi => k_is)
    (case b_rwo => k_is)
    (case m_rwo => k_is)
    (case l_rwo => k_is)
    (case c_rwo => k_is)
    (case k_rwo => k_is)
    (case l_rRi => k_is)
    (case c_rRi => k_is)
    (case k_rRi => k_is)
    (case w_my => k_is)
    (case w_sb => k_is)
    (case w_sm => k_is)
    (case z_list => k_is)
    (case z_sorted => k_is)
    (case z_set => k_is)
    (case z_all => k_is)
    (case z_len => k_is)
    (case z_enumerate => k_is)
    (case z_range => k_is)
    (case z_isinstance => k_is)
    (case z_tuple => k_is)
    (case z_ValueError => k_is)
    (case z_bool => k_is)
    (case z_str => k_is)
    (case z_int => k_is)
    (case z_min => k_is)
    (case z_max => k_is)
    (case e_wSMALL => first | k_is | kernel_rfl)
    (case e_wLETTERS => first | k_is | kernel_rfl)
    (case e_wMOST_STEPS => first | k_is | kernel_rfl)
    (case e_wMOST_DEEP => first | k_is | kernel_rfl)
    (case e_wMOST_TIMES => first | k_is | kernel_rfl)
    (case e_wMOST_SIDES => first | k_is | kernel_rfl)
    (case e_wLONGEST_NAME => first | k_is | kernel_rfl)
    (case e_wMOST_DONE => first | k_is | kernel_rfl)
    (case e_wMOST_LISTED => first | k_is | kernel_rfl)
    (case a_L => k_is)
    (case l_L => k_is)
    (case c_L => k_is)
    (case h_L => kernel_rfl)
