import PyProof.Rows.All
import Wide.All
import OpenK.AllK
import Wide.FinOn
import HandS.ForMost
import HandS.IsInst
import HandS.Evl
import PySem.Challenge.RW_readwriteroom_k01_can_begin
set_option Elab.async false
set_option linter.all false
set_option maxRecDepth 100000
namespace RR
open PySem L2 Evl

/-! ### small additions to Evl -/
section
variable {K : PySem.W.Frag} {σ : L2.St} {H H' : Hp} {ta tb te tx : TE} {t u : TT} {x y z v : V} {r : R2}
theorem RetV.mono {Q : VK} (k : RetV v H Q) (e : Ex H H') : RetV v H' Q := fun H2 e2 => k H2 (e.trans e2)
theorem RetL.mono {Q : VK} {xs : List V} (k : RetL xs H Q) (e : Ex H H') : RetL xs H' Q := fun p H2 hp e2 h => k p H2 (fresh_back e hp) (e.trans e2) h
def rIsiB (K : PySem.W.Frag) : List V → Hp → VK → Prop := rIsi K
theorem ev_isbool {b : Bool} (ha : Ev ta σ H (.bl b)) : Ev (tCB (rIsi K) (tCons ta (tCons (tC (.ty "bool")) tNil))) σ H (.bl true) := fun H1 e Q q =>
  ha H1 e _ fun H2 e2 => ⟨.bl b, .ty "bool", _, _, true, rfl, ClsV.ty "bool", TyX.base (TyOf.bl b), kit_ty (by decide +kernel), q H2 e2⟩
theorem tst_is {b b' : Bool} (h : EvT t σ H b) (e : b = b') : EvT t σ H b' := et_is h e
theorem et_tru_bl {b : Bool} (ha : Ev ta σ H (.bl b)) : EvT (fun σ H Q => ta σ H fun x H' => ∃ k, TruV K x H' k ∧ Q k H') σ H b := fun H1 e Q q =>
  ha H1 e _ fun H2 e2 => ⟨b, rfl, q H2 e2⟩
end

/-- a name that holds an int is set anew in an if without an else -/
theorem q_ifInt {σ : L2.St} {H : Hp} {te : TE} {t : TT} {D : Ends} {tz : TS} {b : Bool} {i : Nat} {x y : Int} (h : EvT t σ H b) (hy : σ[i]? = some (some (.int y))) (h1 : Ev te σ H (.int x))
    (k : ∀ H1, Ex H H1 → tz D (σ.set i (some (.int (if b = true then x else y)))) H1) : tSeq (tIfS t (tAsg te (gName i)) tNext) tz D σ H := by
  refine q_ifAsg (v := .int (if b = true then x else y)) h (fun hb => ?_) (fun hb => ?_) k
  · rw [if_pos hb]
    exact h1
  · have e : (if b = true then x else y) = y := if_neg (by rw [hb]; exact Bool.false_ne_true)
    rw [e]
    obtain ⟨hi, e2⟩ := List.getElem?_eq_some_iff.mp hy
    rw [← e2]
    exact List.set_getElem_self hi

local macro_rules | `(tactic| walk_at "ev") => `(tactic| first
  | exact ev_var rfl
  | exact ev_c
  | (refine' ev_op ?a ?b ?c; (case a => walk_at "ev"); (case b => walk_at "ev"); (case c => walk_at "rv"))
  | (refine' ev_call ?a ?b; (case a => walk_at "ea"); (case b => walk_at "sv"))
  | (refine' ev_isbool ?a; (case a => walk_at "ev"))
  | (refine' ev_andV ?a (fun _ => ?b); (case a => walk_at "ev"); (case b => walk_at "ev"))
  | (refine' ev_orV ?a (fun _ => ?b); (case a => walk_at "ev"); (case b => walk_at "ev"))
  | (refine' ev_notV ?a; (case a => walk_at "ev"))
  | assumption)
local macro_rules | `(tactic| walk_at "ea") => `(tactic| first
  | exact ea_nil
  | (refine' ea_cons ?a ?b; (case a => walk_at "ev"); (case b => walk_at "ea")))
local macro_rules | `(tactic| walk_at "rv") => `(tactic| first
  | exact rv_I0
  | (refine' rv_I ?a; (case a => walk_at "side"))
  | (refine' rv_eq ?a; (case a => rfl))
  | (refine' rv_ne ?a; (case a => rfl))
  | assumption)
local macro_rules | `(tactic| walk_at "side") => `(tactic| first
  | (show _ ≠ _; first | decide | omega)
  | (show _ ∧ _; first | exact ⟨by decide, by decide⟩ | exact ⟨by decide, by decide, by decide⟩ | omega))
local macro_rules | `(tactic| walk_at "et") => `(tactic| first
  | (refine' et_test ?a; (case a => walk_at "ev"))
  | (refine' et_B ?a; (case a => walk_at "ev"))
  | (refine' et_tru_bl ?a; (case a => walk_at "ev"))
  | (refine' et_and ?a (fun _ => ?b); (case a => walk_at "et"); (case b => walk_at "et"))
  | (refine' et_or ?a (fun _ => ?b); (case a => walk_at "et"); (case b => walk_at "et"))
  | (refine' et_not ?a; (case a => walk_at "et")))

local macro_rules | `(tactic| walk_at "asg") => `(tactic| (refine' q_asg ?h ?k; (case h => walk_at "ev")))
local macro_rules | `(tactic| walk_at "when") => `(tactic| (refine' q_when ?h ?k1 ?k2; (case h => walk_at "et")))
local macro_rules | `(tactic| walk_at "ret") => `(tactic| (refine' s_ret ?h ?k; (case h => walk_at "ev")))


def topS (i : Nat) : Stmt := PySem.Challenge.pw_readwriteroom_k01_can_begin.main.body.getD i (.Pass ⟨0, 0, 0, 0⟩)
abbrev sCan : Stmt := topS 2
abbrev nmCan : List Str := ["seats", "reading", "writes", "wish"]
theorem scCan : FnScope nmCan ["seats", "reading", "writes", "wish"] (defScope sCan) := ⟨rfl, rfl, rfl, by decide +kernel, rfl, by decide +kernel, by decide +kernel⟩
abbrev sCell : Stmt := topS 4
abbrev nmCell : List Str := ["_law_script", "_law_k"]
theorem scCell : FnScope nmCell ["_law_script", "_law_k"] (defScope sCell) := ⟨rfl, rfl, rfl, by decide +kernel, rfl, by decide +kernel, by decide +kernel⟩
abbrev sNum : Stmt := topS 5
abbrev nmNum : List Str := ["_law_cell", "_law_least", "_law_way"]
theorem scNum : FnScope nmNum ["_law_cell", "_law_least"] (defScope sNum) := ⟨rfl, rfl, rfl, by decide +kernel, rfl, by decide +kernel, by decide +kernel⟩
abbrev sLaw : Stmt := topS 6
abbrev nmLaw : List Str := ["_law_script", "_law_seats", "_law_reading", "_law_writes", "_law_free", "_law_alone"]
theorem scLaw : FnScope nmLaw ["_law_script"] (defScope sLaw) := ⟨rfl, rfl, rfl, by decide +kernel, rfl, by decide +kernel, by decide +kernel⟩
structure Top (K : PySem.W.Frag) (mg : Str → Option Value) where
  f_Can : Addr
  fd_Can : FuncData
  F_Can : Fun K "can_begin" "can_begin" sCan f_Can fd_Can
  B_Can : Binds K fd_Can ["seats", "reading", "writes", "wish"] []
  g_Can : mg "can_begin" = some (.ref f_Can)
  f_Cell : Addr
  fd_Cell : FuncData
  F_Cell : Fun K "_law_cell_at" "_law_cell_at" sCell f_Cell fd_Cell
  B_Cell : Binds K fd_Cell ["_law_script", "_law_k"] []
  g_Cell : mg "_law_cell_at" = some (.ref f_Cell)
  f_Num : Addr
  fd_Num : FuncData
  F_Num : Fun K "_law_number_by" "_law_number_by" sNum f_Num fd_Num
  B_Num : Binds K fd_Num ["_law_cell", "_law_least"] []
  g_Num : mg "_law_number_by" = some (.ref f_Num)
  f_Law : Addr
  fd_Law : FuncData
  F_Law : Fun K "law" "law" sLaw f_Law fd_Law
  B_Law : Binds K fd_Law ["_law_script"] []
  g_Law : mg "law" = some (.ref f_Law)
  m_bool : mg "bool" = none
  m_isinstance : mg "isinstance" = none
  m_len : mg "len" = none
  t_READ : Tok
  c_READ : mg "READ" = some (.str (Str.ofString "read") t_READ)

/-! ### mirrors -/
def cellAt (ns : List Int) (k : Nat) : Int := ns.getD k 0
def numBy (c l : Int) : Int :=
  if c.fmod 8 < 3 then l + c.fmod 8 else
  if c.fmod 8 = 3 then l + (c.fdiv 8).fmod 9 else
  if c.fmod 8 = 4 then 10 ^ 9 else
  if c.fmod 8 = 5 then l + (c.fdiv 8).fmod (10 ^ 9 + 1 - l) else
  l + (c.fdiv 8).fmod (if c.fmod 8 = 6 then 60 else 300)
theorem fmod_b (c : Int) {m : Int} (h : 0 < m) : 0 ≤ c.fmod m ∧ c.fmod m < m := ⟨Int.fmod_nonneg_of_pos c h, Int.fmod_lt_of_pos c h⟩
theorem numBy_b (c l : Int) (hl : l = 0 ∨ l = 1) : l ≤ numBy c l ∧ numBy c l ≤ 10 ^ 9 := by
  have h1 := fmod_b c (m := 8) (by decide)
  have h2 := fmod_b (c.fdiv 8) (m := 9) (by decide)
  have h3 := fmod_b (c.fdiv 8) (m := 10 ^ 9 + 1 - l) (by omega)
  have h4 := fmod_b (c.fdiv 8) (m := (if c.fmod 8 = 6 then 60 else 300)) (by split <;> decide)
  unfold numBy
  split
  · omega
  · split
    · omega
    · split
      · omega
      · split
        · omega
        · constructor
          · omega
          · have : (if c.fmod 8 = 6 then (60:Int) else 300) ≤ 300 := by split <;> decide
            omega
def canB (seats reading : Int) (writes : Bool) (wish : Str) : Bool :=
  if writes = true then false else if wish = ("read" : Str) then decide (reading < seats) else decide (reading = 0)

/-! ### promises -/
def spCell (K : PySem.W.Frag) : Sp := fun vs H Q _ => ∃ (a : Addr) (ns : List Int) (k : Nat), vs = [.ref a, .int (k : Int)] ∧ SqL K H a (ns.map V.int) ∧ RetV (.int (cellAt ns k)) H Q
def spNum : Sp := fun vs H Q _ => ∃ (c l : Int), vs = [.int c, .int l] ∧ (l = 0 ∨ l = 1) ∧ RetV (.int (numBy c l)) H Q
def spCan : Sp := fun vs H Q _ => ∃ (s r : Int) (b : Bool) (w : Str), vs = [.int s, .int r, .bl b, .str w] ∧ RetV (.bl (canB s r b w)) H Q
def spLaw (K : PySem.W.Frag) : Sp := fun vs H Q _ => ∃ (a : Addr) (ns : List Int), vs = [.ref a] ∧ SqL K H a (ns.map V.int) ∧ ns.length ≤ 63 ∧ ∀ H', Q (.bl true) H'
theorem sv_cell {K : PySem.W.Frag} {H : Hp} {a : Addr} {ns : List Int} (k : Nat) (h : SqL K H a (ns.map V.int)) : SpV (spCell K) [.ref a, .int (k : Int)] H (.int (cellAt ns k)) := fun H1 e Q q E => ⟨a, ns, k, rfl, ex_l e h, q⟩
theorem sv_num {H : Hp} {c l : Int} (h : l = 0 ∨ l = 1) : SpV spNum [.int c, .int l] H (.int (numBy c l)) := fun H1 e Q q E => ⟨c, l, rfl, h, q⟩
theorem sv_can {H : Hp} {s r : Int} {b : Bool} {w : Str} : SpV spCan [.int s, .int r, .bl b, .str w] H (.bl (canB s r b w)) := fun H1 e Q q E => ⟨s, r, b, w, rfl, q⟩


section
variable {P : Program} {w : World} {K : PySem.W.Frag} {mg : Str → Option Value} {base : Heap}
local macro_rules | `(tactic| walk_at "sv") => `(tactic| first
  | exact sv_cell 0 (by assumption) | exact sv_cell 1 (by assumption) | exact sv_cell 2 (by assumption)
  | exact sv_num (Or.inr rfl) | exact sv_can)
theorem ok_Cell (T : Top K mg) : FnOk P w K mg base CX0 1 T.f_Cell T.fd_Cell ["_law_script", "_law_k"] (spCell K) := by
  refine T.F_Cell.ok scCell (fun vs H Q E h => ?_) (fun cdv A outer s H vs Q E hr h => ?_)
  · obtain ⟨a, ns, k, rfl, hS, q⟩ := h
    rfl
  · obtain ⟨a, ns, k, rfl, hS, q⟩ := h
    refine ⟨_, (pss_cons (ps_if (pt_cmpR op_lt (pv 1) (pe_callB call_len_seq (by rfl) T.m_len PySem.boot_len (pa_cons (pv 0) pa_nil)) (nomark _))
      (pss_one (ps_ret (pe_ix ix_list (pv 0) (pv 1) (fun _ _ => rfl))))
      pss_nil)
      (pss_one (ps_ret pe_int))), ?_⟩
    refine q_when (b := decide ((k : Int) < (ns.map V.int).length)) (et_test (ev_op (ev_var rfl) (ev_len (ev_var rfl) hS) rv_I0)) (fun hb H1 e1 => ?_) (fun hb H1 e1 => ?_)
    · have hk : k < (ns.map V.int).length := by have := of_decide_eq_true hb; omega
      have hk' : k < ns.length := by rw [List.length_map] at hk; exact hk
      have g : (ns.map V.int)[k]? = some (.int (cellAt ns k)) := by
        rw [List.getElem?_map, List.getElem?_eq_getElem hk']
        show some (V.int ns[k]) = some (V.int (cellAt ns k))
        unfold cellAt
        rw [List.getD_eq_getElem?_getD, List.getElem?_eq_getElem hk']
        rfl
      exact s_ret (ev_op (ev_var rfl) (ev_var rfl) (rv_ixL (ex_l e1 hS) (atI_nat g))) fun H2 e2 => q H2 (e1.trans e2)
    · refine s_ret ev_c fun H2 e2 => ?_
      have hk : ¬ k < ns.length := by
        have := of_decide_eq_false hb
        rw [List.length_map] at this
        omega
      have g : cellAt ns k = 0 := by
        unfold cellAt
        rw [List.getD_eq_getElem?_getD, List.getElem?_eq_none (by omega)]
        rfl
      rw [g] at q
      exact q H2 (e1.trans e2)
theorem ok_Num (T : Top K mg) : FnOk P w K mg base CX0 1 T.f_Num T.fd_Num ["_law_cell", "_law_least"] (spNum) := by
  refine T.F_Num.ok scNum (fun vs H Q E h => ?_) (fun cdv A outer s H vs Q E hr h => ?_)
  · obtain ⟨c, l, rfl, hl, q⟩ := h
    rfl
  · obtain ⟨c, l, rfl, hl, q⟩ := h
    refine ⟨_, (pss_cons (ps_set (i := 2) scNum.nd rfl (Or.inl rfl) (pe_op op_modN (pv 0) pe_int))
      (pss_cons (ps_if (pt_cmpR op_lt (pv 2) pe_int (nomark _))
      (pss_one (ps_ret (pe_op op_add (pv 1) (pv 2))))
      pss_nil)
      (pss_cons (ps_if (pt_cmpR op_eq (pv 2) pe_int (nomark _))
      (pss_one (ps_ret (pe_op op_add (pv 1) (pe_op op_modN (pe_op op_fdivN (pv 0) pe_int) pe_int))))
      pss_nil)
      (pss_cons (ps_if (pt_cmpR op_eq (pv 2) pe_int (nomark _))
      (pss_one (ps_ret (pe_op op_pow pe_int pe_int)))
      pss_nil)
      (pss_cons (ps_if (pt_cmpR op_eq (pv 2) pe_int (nomark _))
      (pss_one (ps_ret (pe_op op_add (pv 1) (pe_op op_modN (pe_op op_fdivN (pv 0) pe_int) (pe_op op_sub (pe_op op_add (pe_op op_pow pe_int pe_int) pe_int) (pv 1))))))
      pss_nil)
      (pss_one (ps_ret (pe_op op_add (pv 1) (pe_op op_modN (pe_op op_fdivN (pv 0) pe_int) (pe_ix ix_list (pe_lst (pa_cons pe_int (pa_cons pe_int pa_nil))) (pe_op op_sub (pv 2) pe_int) (fun _ _ => rfl))))))))))), ?_⟩
    have hb := fmod_b c (m := 8) (by decide)
    walk_at "asg"; intro H1 e1
    replace q := RetV.mono q e1
    walk_at "when"; all_goals (intro hc H2 e2)
    · walk_at "ret"; intro H3 e3
      have g : numBy c l = l + c.fmod 8 := if_pos (of_decide_eq_true hc)
      rw [g] at q
      exact q H3 (e2.trans e3)
    replace q := RetV.mono q e2
    have n1 := of_decide_eq_false hc
    walk_at "when"; all_goals (intro hc H2 e2)
    · walk_at "ret"; intro H3 e3
      have c1 : c.fmod 8 = 3 := V.int.inj (of_decide_eq_true hc)
      have g : numBy c l = l + (c.fdiv 8).fmod 9 := by unfold numBy; rw [if_neg n1, if_pos c1]
      rw [g] at q
      exact q H3 (e2.trans e3)
    replace q := RetV.mono q e2
    have n2 : ¬ c.fmod 8 = 3 := fun z => of_decide_eq_false hc (congrArg V.int z)
    walk_at "when"; all_goals (intro hc H2 e2)
    · refine s_ret (ev_op ev_c ev_c (rv_I ⟨by decide, by decide, by decide⟩)) fun H3 e3 => ?_
      have c1 : c.fmod 8 = 4 := V.int.inj (of_decide_eq_true hc)
      have g : numBy c l = 10 ^ 9 := by unfold numBy; rw [if_neg n1, if_neg n2, if_pos c1]
      rw [g] at q
      exact q H3 (e2.trans e3)
    replace q := RetV.mono q e2
    have n3 : ¬ c.fmod 8 = 4 := fun z => of_decide_eq_false hc (congrArg V.int z)
    walk_at "when"; all_goals (intro hc H2 e2)
    · refine s_ret (ev_op (ev_var rfl) (ev_op (ev_op (ev_var rfl) ev_c (rv_I ⟨by decide, by decide⟩)) (ev_op (ev_op (ev_op ev_c ev_c (rv_I ⟨by decide, by decide, by decide⟩)) ev_c rv_I0) (ev_var rfl) rv_I0) (rv_I (show _ ≠ (0:Int) from ?_))) rv_I0) fun H3 e3 => ?_
      · show (10:Int) ^ (9:Int).toNat + 1 - l ≠ 0
        have : (10:Int) ^ (9:Int).toNat = 1000000000 := by decide
        omega
      have c1 : c.fmod 8 = 5 := V.int.inj (of_decide_eq_true hc)
      have g : numBy c l = l + (c.fdiv 8).fmod (10 ^ 9 + 1 - l) := by unfold numBy; rw [if_neg n1, if_neg n2, if_neg n3, if_pos c1]
      rw [g] at q
      exact q H3 (e2.trans e3)
    replace q := RetV.mono q e2
    have n4 : ¬ c.fmod 8 = 5 := fun z => of_decide_eq_false hc (congrArg V.int z)
    have g : numBy c l = l + (c.fdiv 8).fmod (if c.fmod 8 = 6 then 60 else 300) := by unfold numBy; rw [if_neg n1, if_neg n2, if_neg n3, if_neg n4]
    rw [g] at q
    have at6 : atI [V.int 60, V.int 300] (c.fmod 8 - 6) = some (.int (if c.fmod 8 = 6 then 60 else 300)) := by
      rcases (by omega : c.fmod 8 = 6 ∨ c.fmod 8 = 7) with z | z
      · rw [z]; rfl
      · rw [z]; rfl
    refine s_ret (ev_op (ev_var rfl) (ev_op (ev_op (ev_var rfl) ev_c (rv_I ⟨by decide, by decide⟩)) (ev_opL1 (el_lst (ea_cons ev_c (ea_cons ev_c ea_nil)) (by decide)) (fun _ _ => ev_op (ev_var rfl) ev_c rv_I0) (fun p H1 h1 _ => rv_ixL (sq_of h1) at6)) (rv_I (show _ ≠ (0:Int) from ?_))) rv_I0) fun H3 e3 => ?_
    · split <;> decide
    exact q H3 e3
theorem ok_Can (T : Top K mg) : FnOk P w K mg base CX0 1 T.f_Can T.fd_Can ["seats", "reading", "writes", "wish"] (spCan) := by
  refine T.F_Can.ok scCan (fun vs H Q E h => ?_) (fun cdv A outer s H vs Q E hr h => ?_)
  · obtain ⟨m, r, b, z, rfl, q⟩ := h
    rfl
  · obtain ⟨m, r, b, z, rfl, q⟩ := h
    refine ⟨_, (pss_cons (ps_if (pt_truth (pv 2) (by intro _; rfl))
      (pss_one (ps_ret pe_bl))
      pss_nil)
      (pss_cons (ps_if (pt_cmpR op_eq (pv 3) (pe_glob (v := .str (Str.ofString "read")) rfl T.c_READ ⟨_, rfl⟩) (nomark _))
      (pss_one (ps_ret (pe_cmpR op_lt (pv 1) (pv 0) (nomark _))))
      pss_nil)
      (pss_one (ps_ret (pe_cmpR op_eq (pv 1) pe_int (nomark _)))))), ?_⟩
    walk_at "when"
    all_goals intro hc H2 e2
    · walk_at "ret"
      intro H3 e3
      have g : canB m r b z = false := if_pos hc
      rw [g] at q
      exact q H3 (e2.trans e3)
    replace q := RetV.mono q e2
    have n1 : ¬ b = true := fun z => by rw [hc] at z; cases z
    walk_at "when"
    all_goals intro hc2 H2 e2
    · walk_at "ret"
      intro H3 e3
      have c1 : z = Str.ofString "read" := V.str.inj (of_decide_eq_true hc2)
      have g : canB m r b z = decide (r < m) := by unfold canB; rw [if_neg n1]; exact if_pos c1
      rw [g] at q
      exact q H3 (e2.trans e3)
    have n2 : ¬ z = Str.ofString "read" := fun w => of_decide_eq_false hc2 (congrArg V.str w)
    walk_at "ret"
    intro H3 e3
    have g : canB m r b z = decide (V.int r = V.int 0) := by
      unfold canB
      rw [if_neg n1]
      refine (if_neg n2).trans ?_
      exact decide_eq_decide.mpr ⟨congrArg V.int, V.int.inj⟩
    rw [g] at q
    exact q H3 (e2.trans e3)

theorem ok_Law (T : Top K mg) : FnOk P w K mg base CX0 2 T.f_Law T.fd_Law ["_law_script"] (spLaw K) := by
  have GNum := ok_Num (P := P) (w := w) (base := base) T
  have GCan := ok_Can (P := P) (w := w) (base := base) T
  have GCell := ok_Cell (P := P) (w := w) (base := base) T
  refine T.F_Law.ok scLaw (fun vs H Q E h => ?_) (fun cdv A outer s H vs Q E hr h => ?_)
  · obtain ⟨a, ns, rfl, hS, hlen, q⟩ := h
    rfl
  · obtain ⟨a, ns, rfl, hS, hlen, q⟩ := h
    refine ⟨_, (pss_cons (ps_set (i := 1) scLaw.nd rfl (Or.inl rfl) (pe_call GNum hr (by rfl) T.g_Num T.F_Num.kp T.B_Num .nil pass0 (pa_cons (pe_call GCell hr (by rfl) T.g_Cell T.F_Cell.kp T.B_Cell .nil pass0 (pa_cons (pv 0) (pa_cons pe_int pa_nil))) (pa_cons pe_int pa_nil))))
      (pss_cons (ps_set (i := 2) scLaw.nd rfl (Or.inl rfl) (pe_op op_modN (pe_op op_fdivN (pe_call GCell hr (by rfl) T.g_Cell T.F_Cell.kp T.B_Cell .nil pass0 (pa_cons (pv 0) (pa_cons pe_int pa_nil))) pe_int) (pe_op op_add (pv 1) pe_int)))
      (pss_cons (ps_if (pt_cmpR op_eq (pe_op op_modN (pe_call GCell hr (by rfl) T.g_Cell T.F_Cell.kp T.B_Cell .nil pass0 (pa_cons (pv 0) (pa_cons pe_int pa_nil))) pe_int) pe_int (nomark _))
      (pss_one (ps_set (i := 2) scLaw.nd rfl (Or.inl rfl) (pv 1)))
      pss_nil)
      (pss_cons (ps_if (pt_cmpR op_eq (pe_op op_modN (pe_call GCell hr (by rfl) T.g_Cell T.F_Cell.kp T.B_Cell .nil pass0 (pa_cons (pv 0) (pa_cons pe_int pa_nil))) pe_int) pe_int (nomark _))
      (pss_one (ps_set (i := 2) scLaw.nd rfl (Or.inl rfl) (pe_op op_sub (pv 1) pe_int)))
      pss_nil)
      (pss_cons (ps_if (pt_cmpR op_eq (pe_op op_modN (pe_call GCell hr (by rfl) T.g_Cell T.F_Cell.kp T.B_Cell .nil pass0 (pa_cons (pv 0) (pa_cons pe_int pa_nil))) pe_int) pe_int (nomark _))
      (pss_one (ps_set (i := 2) scLaw.nd rfl (Or.inl rfl) pe_int))
      pss_nil)
      (pss_cons (ps_set (i := 3) scLaw.nd rfl (Or.inl rfl) (pe_cmpR op_eq (pe_op op_modN (pe_call GCell hr (by rfl) T.g_Cell T.F_Cell.kp T.B_Cell .nil pass0 (pa_cons (pv 0) (pa_cons pe_int pa_nil))) pe_int) pe_int (nomark _)))
      (pss_cons (ps_set (i := 4) scLaw.nd rfl (Or.inl rfl) (pe_call GCan hr (by rfl) T.g_Can T.F_Can.kp T.B_Can .nil pass0 (pa_cons (pv 1) (pa_cons (pv 2) (pa_cons (pv 3) (pa_cons pe_str pa_nil))))))
      (pss_cons (ps_set (i := 5) scLaw.nd rfl (Or.inl rfl) (pe_call GCan hr (by rfl) T.g_Can T.F_Can.kp T.B_Can .nil pass0 (pa_cons (pv 1) (pa_cons (pv 2) (pa_cons (pv 3) (pa_cons pe_str pa_nil))))))
      (pss_cons (ps_if (PW.pt (pw_or (pt_not (pt_val (pe_callB call_isi (by rfl) T.m_isinstance (by decide +kernel) (pa_cons (pv 4) (pa_cons (pe_bltn (v := .ty "bool") (by rfl) T.m_bool (by decide +kernel) rfl) pa_nil))))) (pw_or1 (pt_not (pt_val (pe_callB call_isi (by rfl) T.m_isinstance (by decide +kernel) (pa_cons (pv 5) (pa_cons (pe_bltn (v := .ty "bool") (by rfl) T.m_bool (by decide +kernel) rfl) pa_nil))))))))
      (pss_one (ps_ret pe_bl))
      pss_nil)
      (pss_cons (ps_if (pt_val (pv 3))
      (pss_one (ps_ret (pe_and (pe_not (pv 4)) (pe_one (pe_not (pv 5))))))
      pss_nil)
      (pss_one (ps_ret (pe_and (pe_cmpR op_eq (pv 4) (pe_cmpR op_lt (pv 2) (pv 1) (nomark _)) (nomark _)) (pe_one (pe_cmpR op_eq (pv 5) (pe_cmpR op_eq (pv 2) pe_int (nomark _)) (nomark _)))))))))))))))), ?_⟩
    have hn := numBy_b (cellAt ns 0) 1 (Or.inr rfl)
    walk_at "asg"
    intro H1 e1
    replace hS := ex_l e1 hS
    walk_at "asg"
    intro H1 e1
    replace hS := ex_l e1 hS
    refine' q_ifInt ?h1 ?h2 ?h3 ?h4
    (case h1 => walk_at "et")
    (case h2 => rfl)
    (case h3 => walk_at "ev")
    intro H1 e1
    replace hS := ex_l e1 hS
    refine' q_ifInt ?h5 ?h6 ?h7 ?h8
    (case h5 => walk_at "et")
    (case h6 => rfl)
    (case h7 => walk_at "ev")
    intro H1 e1
    replace hS := ex_l e1 hS
    refine' q_ifInt ?h9 ?h10 ?h11 ?h12
    (case h9 => walk_at "et")
    (case h10 => rfl)
    (case h11 => walk_at "ev")
    intro H1 e1
    replace hS := ex_l e1 hS
    generalize (if decide (V.int ((cellAt ns 1).fmod 4) = V.int 3) = true then (0:Int) else _) = rd
    walk_at "asg"
    intro H1 e1
    generalize decide (V.int ((cellAt ns 2).fmod 3) = V.int 1) = wr
    walk_at "asg"
    intro H1 e1
    walk_at "asg"
    intro H1 e1
    walk_at "when"
    all_goals intro hc H2 e2
    · exact absurd hc (by decide)
    walk_at "when"
    all_goals intro hc2 H2 e2
    · walk_at "ret"
      intro H3 e3
      subst hc2
      exact q _
    · walk_at "ret"
      intro H3 e3
      subst hc2
      have c1 : canB (numBy (cellAt ns 0) 1) rd false (Str.ofString "read") = decide (rd < numBy (cellAt ns 0) 1) := by
        unfold canB
        rw [if_neg Bool.false_ne_true]
        exact if_pos rfl
      have c2 : canB (numBy (cellAt ns 0) 1) rd false (Str.ofString "write") = decide (V.int rd = V.int 0) := by
        unfold canB
        rw [if_neg Bool.false_ne_true]
        refine (if_neg (by decide +kernel)).trans ?_
        exact decide_eq_decide.mpr ⟨congrArg V.int, V.int.inj⟩
      rw [c1, c2, decide_eq_true rfl, decide_eq_true rfl]
      exact q _
end
theorem all_mk {l : PySem.W.OpenLaw} {w : World} {K : PySem.W.Frag} {h : Heap} {mg : Str → Option Value} {fa f0 f1 f2 f3 : Addr} (X : K.In h) (G : h.Ns mainGlobals mg) (hfa : mg "law" = some (.ref fa))
    {od0 an0 od1 an1 od2 an2 od3 an3 : Option Addr} {sl0 sl1 sl2 sl3 : Array (Option Value)} {oc0 kV0 dc0 pm0 cd0 ct0 oc1 kV1 dc1 pm1 cd1 ct1 oc2 kV2 dc2 pm2 cd2 ct2 oc3 kV3 dc3 pm3 cd3 ct3 : Value}
    (a0 : PySem.W.nsIn K mainGlobals "can_begin" = some (some (.ref f0))) (l0 : K.lookup f0 = some ⟨oc0, od0, .func (PySem.W.fnOf "can_begin" "can_begin" (defArgs sCan) (defBody sCan) (defScope sCan) .none kV0 dc0 pm0 an0 cd0 ct0), sl0⟩) (c0 : PySem.W.codeIn K cd0 "can_begin" = true) (k0 : PySem.W.keepIn K (.ref f0) = true)
    (a1 : PySem.W.nsIn K mainGlobals "_law_cell_at" = some (some (.ref f1))) (l1 : K.lookup f1 = some ⟨oc1, od1, .func (PySem.W.fnOf "_law_cell_at" "_law_cell_at" (defArgs sCell) (defBody sCell) (defScope sCell) .none kV1 dc1 pm1 an1 cd1 ct1), sl1⟩) (c1 : PySem.W.codeIn K cd1 "_law_cell_at" = true) (k1 : PySem.W.keepIn K (.ref f1) = true)
    (a2 : PySem.W.nsIn K mainGlobals "_law_number_by" = some (some (.ref f2))) (l2 : K.lookup f2 = some ⟨oc2, od2, .func (PySem.W.fnOf "_law_number_by" "_law_number_by" (defArgs sNum) (defBody sNum) (defScope sNum) .none kV2 dc2 pm2 an2 cd2 ct2), sl2⟩) (c2 : PySem.W.codeIn K cd2 "_law_number_by" = true) (k2 : PySem.W.keepIn K (.ref f2) = true)
    (a3 : PySem.W.nsIn K mainGlobals "law" = some (some (.ref f3))) (l3 : K.lookup f3 = some ⟨oc3, od3, .func (PySem.W.fnOf "law" "law" (defArgs sLaw) (defBody sLaw) (defScope sLaw) .none kV3 dc3 pm3 an3 cd3 ct3), sl3⟩) (c3 : PySem.W.codeIn K cd3 "law" = true) (k3 : PySem.W.keepIn K (.ref f3) = true)
    (z_bool : PySem.W.nsIn K mainGlobals "bool" = some none)
    (z_isinstance : PySem.W.nsIn K mainGlobals "isinstance" = some none)
    (z_len : PySem.W.nsIn K mainGlobals "len" = some none)
    {t_READ : Tok}
    (y_READ : PySem.W.nsIn K mainGlobals "READ" = some (some (.str (Str.ofString "read") t_READ))) :
    ∃ fd : FuncData, (∀ (s : Shared) (v : Value), BindsTo s fd ⟨[v], []⟩ [("_law_script", v)]) ∧ ∀ base : Heap, K.In base → base.Ns mainGlobals mg → FnOk l.prog w K mg base CX0 2 fa fd ["_law_script"] (spLaw K) := by
  have e := hfa.symm.trans (PySem.W.mg_of X G a3)
  cases e
  have F0 := fun_mk (st := sCan) l0 c0 k0
  have b0 := F0.binds (ps := ["seats", "reading", "writes", "wish"]) fun _ _ _ _ _ _ us hl => match us, hl with | [_, _, _, _], _ => rfl
  have F1 := fun_mk (st := sCell) l1 c1 k1
  have b1 := F1.binds (ps := ["_law_script", "_law_k"]) fun _ _ _ _ _ _ us hl => match us, hl with | [_, _], _ => rfl
  have F2 := fun_mk (st := sNum) l2 c2 k2
  have b2 := F2.binds (ps := ["_law_cell", "_law_least"]) fun _ _ _ _ _ _ us hl => match us, hl with | [_, _], _ => rfl
  have F3 := fun_mk (st := sLaw) l3 c3 k3
  have b3 := F3.binds (ps := ["_law_script"]) fun _ _ _ _ _ _ us hl => match us, hl with | [_], _ => rfl
  have T : Top K mg := ⟨f0, _, F0, b0, PySem.W.mg_of X G a0, f1, _, F1, b1, PySem.W.mg_of X G a1, f2, _, F2, b2, PySem.W.mg_of X G a2, fa, _, F3, b3, PySem.W.mg_of X G a3, PySem.W.mg_none_of X G z_bool, PySem.W.mg_none_of X G z_isinstance, PySem.W.mg_none_of X G z_len, t_READ, PySem.W.mg_of X G y_READ⟩
  refine ⟨PySem.W.fnOf "law" "law" (defArgs sLaw) (defBody sLaw) (defScope sLaw) .none kV3 dc3 pm3 an3 cd3 ct3, fun s v => .of_eq rfl, fun base _ _ => ?_⟩
  exact ok_Law ⟨f0, _, F0, b0, PySem.W.mg_of X G a0, f1, _, F1, b1, PySem.W.mg_of X G a1, f2, _, F2, b2, PySem.W.mg_of X G a2, fa, _, F3, b3, PySem.W.mg_of X G a3, PySem.W.mg_none_of X G z_bool, PySem.W.mg_none_of X G z_isinstance, PySem.W.mg_none_of X G z_len, t_READ, PySem.W.mg_of X G y_READ⟩
end RR
open PySem PySem.W PyProof.Rows in
set_option maxRecDepth 100000 in
set_option maxHeartbeats 0 in
theorem PySem.Challenge.cw_readwriteroom_k01_can_begin_holds : PySem.Challenge.rw_readwriteroom_k01_can_begin.Holds := by
  w_on; o_law; k_head; (case hw => w_witness2)
  k_fill
  refine L2.walk_of (l := PySem.Challenge.rw_readwriteroom_k01_can_begin) (n := 63) (k := 2) (x := "_law_script") (CX := fun _ => L2.CX0) (sp := fun w => RR.spLaw _) rfl (by decide) rfl ⟨rfl, by decide, by decide⟩ (fun w h Y => PySem.W.kIn_of Y) ?F (fun _ _ a ns hl _ hS => ⟨a, ns, rfl, hS, hl, fun _ => rfl⟩) (fun _ _ _ _ _ h => h)
  case F =>
    intro w mg fa h KX G hmg
    refine' RR.all_mk KX G hmg ?a0 ?l0 ?c0 ?k0 ?a1 ?l1 ?c1 ?k1 ?a2 ?l2 ?c2 ?k2 ?a3 ?l3 ?c3 ?k3 ?z_bool ?z_isinstance ?z_len ?y_READ
    (case a0 => k_is)
    (case l0 => k_is)
    (case c0 => k_is)
    (case k0 => k_is)
    (case a1 => k_is)
    (case l1 => k_is)
    (case c1 => k_is)
    (case k1 => k_is)
    (case a2 => k_is)
    (case l2 => k_is)
    (case c2 => k_is)
    (case k2 => k_is)
    (case a3 => k_is)
    (case l3 => k_is)
    (case c3 => k_is)
    (case k3 => k_is)
    (case z_bool => k_is)
    (case z_isinstance => k_is)
    (case z_len => k_is)
    (case y_READ => k_is)

