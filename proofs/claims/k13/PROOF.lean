

import PyProof.Rows.All
import Wide.All
import OpenK.AllK
import Wide.FinOn
import KE.KStateDown
import HandS.ForMost
import HandS.More
import HandS.Flow
import HandS.IsInst
import HandS.AnyAll
import HandS.Steps
import HandS.Walk
import HandS.Evl
import HandS.ExcOwn
import HandS.ExcCtx
import HandS.ExcIs
import HandS.HotCalls
import HandS.WordsExc
import HandS.Head0
import HandS.Head1
import HandS.Head2
import HandS.HeadEnd
import HandS.HeadHook1
import HandS.HeadHook2
import HandS.HeadHook4
import HandS.HeadWalk
import PyProof.Rows.SortShellAny
import PySem.Challenge.RW_readwriteroom_k13_whole_judged
set_option Elab.async false
set_option linter.all false
set_option maxHeartbeats 8000000
set_option maxRecDepth 100000

/-! ### all(test for x in text), the test over the sign and the module's names -/
namespace RG
open PySem PySem.Spec PyProof.Rows L2
/-- the test of one sign: it may read the sign's name and the module's names -/
def Elt (P : Program) (w : World) (mg : Str → Option Value) (scope : Scope) (x : Str) (elt : Expr) (pb : Nat → Bool) : Prop :=
  ∀ (ev : Env) (A : Around) (E : Value → Shared → Prop) (k : Nat) (t : Tok) (s : Shared) (m : Str → Option Value), ev.scope = scope → ev.globals = mainGlobals → s.heap.Ns mainGlobals mg → s.heap.Ns ev.locals m → m x = some (.str ⟨#[k]⟩ t) →
    wpAny (model P w) A (eval elt ev) (fun y s' => y = .bool (pb k) ∧ Keeps s s') E s
/-- x in NAME, NAME a text of the module -/
theorem elt_in {P : Program} {w : World} {mg : Str → Option Value} {scope : Scope} {x N z : Str} {tk : Tok} {p1 p2 p3 : Pos} (kd : scope.kind = .function) (lx : scope.names.lookup x = some .local) (lN : scope.names.lookup N = some .globalImplicit) (hN : mg N = some (.str z tk))
    (d1 : (x == ("__debug__" : Str)) = false := by decide) (d2 : (N == ("__debug__" : Str)) = false := by decide) : Elt P w mg scope x (.Compare (.Name x p1) [.In] [.Name N p2] p3) (fun k => decide (k ∈ z.cps.toList)) := by
  intro ev A E k t s m hs hg hG hL hx
  subst hs
  refine wpAny_Compare1 (wpAny_Name (wpAny_loadName_local kd lx hL hx ?_) d1) (by rfl)
  have hG' : s.heap.Ns ev.globals mg := by
    rw [hg]
    exact hG
  refine Calls.Name_function_global kd lN (Calls.loadGlobal_global hG' hN (PyProof.Rows.in_str ⟨?_, s.heap, s.toks, rfl, fun _ _ e => e⟩)) d2
  rw [PySem.StrLaws.found_one z k]
theorem nofree {l : List (Str × NameKind)} {R : Str × NameKind → Prop} (h : (l.all fun y => decide (y.2 ≠ .free)) = true) : ∀ y ∈ l, y.2 = .free → R y := fun y hy e => absurd e (of_decide_eq_true (List.all_eq_true.mp h y hy))
section
variable {X : Cx} {pins : List (Addr × Obj)} {σ : L2.St} {H : Hp} {s : Shared} {c P : Addr} {scope : Scope} {x : Str} {elt : Expr} {pb : Nat → Bool}
/-- the code object of the generator is found in the table, or made and entered -/
theorem code_of {M : Model} {A : Around} {E : Value → Shared → Prop} {r : Shared} {ev : Env} {gp : Pos} {qn : Str} {ps : Array Value} {Q : Value → Shared → Prop} (hc : ev.code = .ref c) (hd : PySem.W.CodeHd r.heap c P) (hP : r.heap.get? P = some (PySem.W.tabObj ps)) (ok : TriplesOk ps.toList)
    (h : ∀ cd h' tk more, Heap.ExtBut P r.heap h' → r.heap.objs.size ≤ h'.objs.size → h'.get? P = some (PySem.W.tabObj (ps ++ more)) → TriplesOk (ps ++ more).toList → Q cd { r with heap := h', toks := tk }) : wpAny M A (genexprCode ev gp qn scope) Q E r := by
  cases hf : codeAmong gp ps.toList with
  | some cd =>
    have e : ps ++ #[] = ps := by simp
    refine wpAny_genexprCode_hit hc (hd.code hP ok) hf ?_
    exact h cd r.heap r.toks #[] (.refl _ _) (Nat.le_refl _) (by rw [e]; exact hP) (by rw [e]; exact ok)
  | none =>
    refine wpAny_genexprCodeX hc (hd.code hP ok) (hd.tab hP) hf ?_
    intro c1 h1 t1 ext ge lt co _ ta _
    obtain ⟨_, _, _, _, _, _, _, _, _, _, _, _, _, _, _, _, _, _, _, tr, _⟩ := co
    exact h _ h1 t1 _ ext (Nat.le_trans ge (Nat.le_of_lt lt)) ta.2 tr
theorem in_range {h : Heap} {b : Addr} {u : Obj} (e : h.get? b = some u) : b ∈ List.range h.objs.size := List.mem_range.mpr (Heap.lt_size e)
theorem pe_allG {iter : Expr} {px p pos gp : Pos} {te : TE} {k : Nat} (hr : Room k X.A) (gA : Gl X "all") (mA : X.mg "all" = none) (TB : GxR.TabB X.base X.mg c P) (hc : X.env.code = .ref c) (S : GxR.GenS X.env scope x) (hi : PE X iter te) (hel : Elt X.prog X.w X.mg scope x elt pb)
    (hs : ∀ v, genFold iter X.env v = pure v)
    (he : starEach [.GeneratorExp elt [⟨.Name x px, iter, [], 0⟩] scope gp] X.env = [(false, eval (.GeneratorExp elt [⟨.Name x px, iter, [], 0⟩] scope gp) X.env)] := by rfl) :
    PE X (.Call (.Name "all" p) [.GeneratorExp elt [⟨.Name x px, iter, [], 0⟩] scope gp] [] pos) (GxR.tAllS P pb te) := by
  constructor
  intro pins s σ H Q I h
  have bA : bootBuiltins "all" = some (.builtin "all") := PyProof.Rows.boot_all
  refine wpAny_Call_Name_kw (ld_blt I gA mA bA (PyProof.Rows.callWith_builtin1 ?_ he (by rfl)))
  rw [he]
  refine Calls.spliced_cons ?_
  refine wpAny_GeneratorExp_walksQ hr.hd S.co (closure_ok S.free) S.cell S.dot S.loc S.kind (by have := hr.dp; omega) (thn (hi.run pins s σ H _ I h) ?_) hs
  rintro xv sa ⟨v, Ha, Ia, rv, a, rfl, ⟨ps, tP, ok⟩, q⟩
  obtain ⟨ta, rfl⟩ := rv
  refine wpAny_pyIter_str ?_
  intro io St W st0
  -- the heap with the text's iterator
  have gP : sa.heap.get? P = some (PySem.W.tabObj ps) := Ia.hok P _ tP
  have up : ∀ b u, sa.heap.get? b = some u → (sa.heap.push io).get? b = some u := fun b u e => Heap.get?_push_of_some _ e
  have nl : (sa.heap.push io).NoLimit := Ia.nolimit.push io
  have szp : (sa.heap.push io).objs.size = sa.heap.objs.size + 1 := Heap.size_push ..
  refine ⟨nl, code_of hc (TB.code.keeps fun b u e => up b u (Ia.bk b u e)) (up _ _ gP) ok ?_⟩
  intro cd h3 tk more ext ge gP3 ok3
  have ge2 : sa.heap.objs.size + 1 ≤ h3.objs.size := by
    rw [← szp]
    exact ge
  have kp : ∀ b u, b ≠ P → sa.heap.get? b = some u → h3.get? b = some u := fun b u n e => ext b u n (up b u e)
  have PltA : P < sa.heap.objs.size := Heap.lt_size gP
  have nsG : h3.Ns mainGlobals X.mg := ((Ia.mod.glob.keeps Ia.bk).push io).extBut ext TB.gP
  have csP : cStatics ≠ P := by
    intro e
    obtain ⟨_, ⟨o', _, _, ho, hdd, _⟩, _⟩ := Ia.nolimit
    rw [e, gP] at ho
    cases ho
    cases hdd
  have csA : cStatics < sa.heap.objs.size := let ⟨_, hns, _⟩ := Ia.nolimit; hns.lt
  have itP : sa.heap.objs.size ≠ P := fun e => absurd PltA (by rw [e]; exact Nat.lt_irrefl _)
  obtain ⟨bm, ob, b1, b2, b3, b4, b5, b6, b7, b8⟩ := TB.bm
  refine wpAny_builtinsFor (m := X.mg) (by rw [Ia.ok.glob]; exact nsG) b1 b2 (kp _ _ b4 (Ia.bk _ _ b5)) b6 b7 b8 ?_
  refine ⟨sa.heap.objs.size, [sa.heap.objs.size], [sa.heap.objs.size], a.cps.size, SignAt a, St, fun _ => true, fun j y => ∃ k, a.cps[j]? = some k ∧ y = .bool (pb k), rfl, W, ?_, ?_, nl.extBut ext csP, ?_, ?_, ?_⟩
  · refine (W X.A hr.hd).frame _ _ _ st0 fun b hb u e => ext b u ?_ e
    rw [List.mem_singleton.mp hb]
    exact itP
  · intro b hb
    rw [List.mem_singleton.mp hb]
    exact ge2
  · intro hm
    exact Nat.ne_of_lt csA (List.mem_singleton.mp hm)
  · intro hh kh
    constructor
    · intros
      simp only [List.forIn_nil]
      exact wpAny_pure ⟨rfl, GxR.keeps_refl _⟩
    · rintro A' E' j v s2 m2 hA ⟨k, u, hk, rfl⟩ _ hn hm keep
      have G2 : s2.heap.Ns mainGlobals X.mg := by
        obtain ⟨og, es, ep, hog, r⟩ := nsG
        refine ⟨og, es, ep, keep _ (in_range hog) ?_ _ (kh _ _ hog), r⟩
        intro hm2
        have e2 := List.mem_singleton.mp hm2
        obtain ⟨o9, _, _, h9, _⟩ := Ia.mod.glob.keeps Ia.bk
        have := Heap.lt_size h9
        rw [e2] at this
        exact Nat.lt_irrefl _ this
      refine wpAny_mono (hel _ A' E' k u s2 m2 rfl Ia.ok.glob G2 hn hm) ?_ fun _ _ z => z
      rintro y s3 ⟨e, kk⟩
      exact ⟨⟨k, hk, e⟩, kk⟩
  · intro g h5 t5 gs bare _ _ k5 W5 hat
    rw [GxR.passing_true] at W5
    simp only [List.length_range] at W5
    refine Calls.spliced_nil (call_all_walkS (W5.in4_1.self 0 _ _ _ hat ⟨g, _, _, _, _, _, _, GxR.trF pb a.cps.toList, rfl, W5.in4_1, hat, ?_, ?_⟩))
    · rintro j y sj Qj Ej ⟨i, hij, k, hk, rfl⟩ hq
      obtain ⟨hj, ej⟩ := List.getElem?_eq_some_iff.mp hij
      rw [List.getElem_range] at ej
      subst ej
      rw [GxR.trF_some (b := k) (by rw [Array.getElem?_toList]; exact hk)] at hq
      exact wpAny_truthy_bool hq
    · intro s' mv
      have away : ∀ b u, sa.heap.get? b = some u → b ∉ [h3.objs.size, sa.heap.objs.size] := by
        intro b u e hm
        have l := Heap.lt_size e
        rcases List.mem_cons.mp hm with z | z
        · rw [z] at l
          exact absurd (Nat.lt_of_lt_of_le l (Nat.le_of_succ_le ge2)) (Nat.lt_irrefl _)
        · rw [List.mem_singleton.mp z] at l
          exact Nat.lt_irrefl _ l
      have J := GxR.inv_tab (more := more) (h' := s'.heap) (g' := s'.gens) (d' := s'.drawn) (t' := s'.toks) Ia tP (fun b u n e => mv.heap b u (away b u e) (k5 b u (kp b u n e))) (mv.heap P _ (away P _ gP) (k5 P _ gP3)) (AllBare.movedS (Ia.bare.push bare) mv)
      rw [GxR.sh_eta sa s' mv.os] at J
      refine ⟨.bl _, _, J, rfl, ?_⟩
      rw [GxR.all_signs a pb]
      exact q _ ⟨⟨_, upd_same, ok3⟩, fun b n => upd_ne n⟩
end
end RG

namespace RR
open PySem L2

/-! ### heaps: what is known stays; the tables of code objects may grow -/
def Gr (H H' : Hp) : Prop := ∀ a o, H a = some o → H' a = some o ∨ ∃ ps qs, o = HO.tbl ps ∧ H' a = some (.tbl qs) ∧ (TriplesOk ps.toList → TriplesOk qs.toList)
namespace Gr
theorem refl (H : Hp) : Gr H H := fun _ _ h => .inl h
theorem trans {H H1 H2 : Hp} (x : Gr H H1) (y : Gr H1 H2) : Gr H H2 := by
  intro a o h
  rcases x a o h with h1 | ⟨ps, qs, rfl, h1, t1⟩
  · exact y a o h1
  · rcases y a _ h1 with h2 | ⟨ps', qs', e, h2, t2⟩
    · exact .inr ⟨ps, qs, rfl, h2, t1⟩
    · cases e
      exact .inr ⟨ps, qs', rfl, h2, fun t => t2 (t1 t)⟩
theorem new {H : Hp} {p : Addr} {o : HO} (hp : H p = none) : Gr H (upd H p o) := fun a u h => .inl ((upd_ne (ne_of_none h hp)).trans h)
theorem chg {H H' : Hp} {p : Addr} {o : HO} (x : Gr H H') (hp : H p = none) : Gr H (upd H' p o) := by
  intro a u h
  have n : a ≠ p := ne_of_none h hp
  rcases x a u h with h1 | ⟨ps, qs, e, h1, t1⟩
  · exact .inl ((upd_ne n).trans h1)
  · exact .inr ⟨ps, qs, e, (upd_ne n).trans h1, t1⟩
theorem at_ {H H' : Hp} {a : Addr} {o : HO} (x : Gr H H') (h : H a = some o) (n : ∀ ps, o ≠ .tbl ps) : H' a = some o := by
  rcases x a o h with h1 | ⟨ps, _, e, _⟩
  · exact h1
  · exact absurd e (n ps)
theorem lst {H H' : Hp} {a : Addr} {xs : List V} (x : Gr H H') (h : H a = some (.lst xs)) : H' a = some (.lst xs) := x.at_ h fun _ e => by cases e
theorem tup {H H' : Hp} {a : Addr} {xs : List V} (x : Gr H H') (h : H a = some (.tup xs)) : H' a = some (.tup xs) := x.at_ h fun _ e => by cases e
theorem ins {H H' : Hp} {a C d : Addr} {fs : List (Str × V)} (x : Gr H H') (h : H a = some (.ins C d fs)) : H' a = some (.ins C d fs) := x.at_ h fun _ e => by cases e
theorem free {H H' : Hp} {p : Addr} (x : Gr H H') (h : H' p = none) : H p = none := by
  cases q : H p with
  | none => rfl
  | some o =>
    rcases x p o q with h1 | ⟨_, _, _, h1, _⟩ <;> (rw [h] at h1; cases h1)
theorem rd {H H' : Hp} {a : Addr} {u : HO} (x : Gr H H') (h : Rd H a u) (n : ∀ ps, u ≠ .tbl ps) : Rd H' a u := by
  rcases h with h | ⟨o, h⟩
  · exact .inl (x.at_ h n)
  · exact .inr ⟨o, x.at_ h fun _ e => by cases e⟩
theorem sl {K : PySem.W.Frag} {H H' : Hp} {a : Addr} {xs : List V} (x : Gr H H') (h : SqL K H a xs) : SqL K H' a xs := by
  rcases h with h | h
  · exact .inl (x.rd h fun _ e => by cases e)
  · exact .inr h
theorem st {K : PySem.W.Frag} {H H' : Hp} {a : Addr} {xs : List V} (x : Gr H H') (h : SqT K H a xs) : SqT K H' a xs := by
  rcases h with h | h
  · exact .inl (x.rd h fun _ e => by cases e)
  · exact .inr h
theorem tab {H H' : Hp} {P : Addr} (x : Gr H H') (h : GxR.TabG H P) : GxR.TabG H' P := by
  obtain ⟨ps, h, t⟩ := h
  rcases x P _ h with h1 | ⟨ps', qs, e, h1, t1⟩
  · exact ⟨ps, h1, t⟩
  · cases e
    exact ⟨qs, h1, t1 t⟩
theorem ofTab {H H' : Hp} {P : Addr} (h : GxR.TabG H P) (g : GxR.Tabbed P H H') : Gr H H' := by
  obtain ⟨⟨qs, h1, t1⟩, oth⟩ := g
  intro a o ha
  by_cases e : a = P
  · subst e
    obtain ⟨ps, h0, t0⟩ := h
    rw [h0] at ha
    cases ha
    exact .inr ⟨ps, qs, rfl, h1, fun _ => t1⟩
  · exact .inl ((oth a e).trans ha)
end Gr
mutual
theorem Gr.dp {K : PySem.W.Frag} {H H' : Hp} (x : Gr H H') : ∀ {v : V} {d : PyData}, Dp K H v d → Dp K H' v d
  | _, _, .non => .non
  | _, _, .bl b => .bl b
  | _, _, .int i => .int i
  | _, _, .str z => .str z
  | _, _, .lst s h => .lst (x.sl s) (Gr.dps x h)
  | _, _, .tup s h => .tup (x.st s) (Gr.dps x h)
theorem Gr.dps {K : PySem.W.Frag} {H H' : Hp} (x : Gr H H') : ∀ {vs : List V} {ds : List PyData}, DpAll K H vs ds → DpAll K H' vs ds
  | _, _, .nil => .nil
  | _, _, .cons h t => .cons (Gr.dp x h) (Gr.dps x t)
end

/-! ### what a reading gives, whatever grew meanwhile -/
def Vl (te : TE) (σ : L2.St) (H : Hp) (v : V) : Prop := ∀ (H1 : Hp) (Q : VK), Gr H H1 → (∀ H2, Gr H1 H2 → Q v H2) → te σ H1 Q
def Ls (te : TE) (σ : L2.St) (H : Hp) (xs : List V) : Prop := ∀ (H1 : Hp) (Q : VK), Gr H H1 → (∀ p H2, H1 p = none → Gr H1 H2 → H2 p = some (.lst xs) → Q (.ref p) H2) → te σ H1 Q
def Tu (te : TE) (σ : L2.St) (H : Hp) (xs : List V) : Prop := ∀ (H1 : Hp) (Q : VK), Gr H H1 → (∀ p H2, H1 p = none → Gr H1 H2 → H2 p = some (.tup xs) → Q (.ref p) H2) → te σ H1 Q
def Ts (tt : TT) (σ : L2.St) (H : Hp) (b : Bool) : Prop := ∀ (H1 : Hp) (Q : Bool → Hp → Prop), Gr H H1 → (∀ H2, Gr H1 H2 → Q b H2) → tt σ H1 Q
def Ag (ta : TA) (σ : L2.St) (H : Hp) (vs : List V) : Prop := ∀ (H1 : Hp) (Q : List V → Hp → Prop), Gr H H1 → (∀ H2, Gr H1 H2 → Q vs H2) → ta σ H1 Q
/-- any value of which R holds (data, say) -/
def Vr (te : TE) (σ : L2.St) (H : Hp) (R : V → Hp → Prop) : Prop := ∀ (H1 : Hp) (Q : VK), Gr H H1 → (∀ v H2, Gr H1 H2 → R v H2 → Q v H2) → te σ H1 Q
def Ar (ta : TA) (σ : L2.St) (H : Hp) (R : List V → Hp → Prop) : Prop := ∀ (H1 : Hp) (Q : List V → Hp → Prop), Gr H H1 → (∀ vs H2, Gr H1 H2 → R vs H2 → Q vs H2) → ta σ H1 Q
def Bi (r : R2) (x y : V) (H : Hp) (z : V) : Prop := ∀ (H1 : Hp) (Q : VK), Gr H H1 → (∀ H2, Gr H1 H2 → Q z H2) → r x y H1 Q
def SpV (sp : Sp) (vs : List V) (H : Hp) (z : V) : Prop := ∀ (H1 : Hp) (Q : VK) (E : XK), Gr H H1 → (∀ H2, Gr H1 H2 → Q z H2) → sp vs H1 Q E
def SpL (sp : Sp) (vs : List V) (H : Hp) (xs : List V) : Prop := ∀ (H1 : Hp) (Q : VK) (E : XK), Gr H H1 → (∀ p H2, H1 p = none → Gr H1 H2 → H2 p = some (.lst xs) → Q (.ref p) H2) → sp vs H1 Q E
def SpR (sp : Sp) (vs : List V) (H : Hp) (R : V → Hp → Prop) : Prop := ∀ (H1 : Hp) (Q : VK) (E : XK), Gr H H1 → (∀ v H2, Gr H1 H2 → R v H2 → Q v H2) → sp vs H1 Q E
/-- a promise's ways out: a value, a new list, anything of which R holds -/
def RV (v : V) (H : Hp) (Q : VK) : Prop := ∀ H2, Gr H H2 → Q v H2
def RL (xs : List V) (H : Hp) (Q : VK) : Prop := ∀ p H2, H p = none → Gr H H2 → H2 p = some (.lst xs) → Q (.ref p) H2
def RR_ (R : V → Hp → Prop) (H : Hp) (Q : VK) : Prop := ∀ v H2, Gr H H2 → R v H2 → Q v H2
theorem RV.mono {v : V} {H H' : Hp} {Q : VK} (k : RV v H Q) (e : Gr H H') : RV v H' Q := fun H2 e2 => k H2 (e.trans e2)
theorem RL.mono {xs : List V} {H H' : Hp} {Q : VK} (k : RL xs H Q) (e : Gr H H') : RL xs H' Q := fun p H2 hp e2 h => k p H2 (e.free hp) (e.trans e2) h
theorem RR_.mono {R : V → Hp → Prop} {H H' : Hp} {Q : VK} (k : RR_ R H Q) (e : Gr H H') : RR_ R H' Q := fun v H2 e2 h => k v H2 (e.trans e2) h
theorem small {n : Nat} (h : n ≤ 100000) : n ≤ sizeLine := Nat.le_trans h (by decide)
theorem small' {n : Nat} (h : n < 100000) : n < sizeLine := Nat.lt_of_lt_of_le h (by decide)

section
variable {K : PySem.W.Frag} {σ : L2.St} {H H' : Hp} {t1 t2 t3 : TE} {c1 c2 : TT} {x y z v : V} {r : R2} {b c : Bool}
theorem Vl.mono (h : Vl t1 σ H v) (e : Gr H H') : Vl t1 σ H' v := fun H1 Q g q => h H1 Q (e.trans g) q
theorem Ls.mono {xs : List V} (h : Ls t1 σ H xs) (e : Gr H H') : Ls t1 σ H' xs := fun H1 Q g q => h H1 Q (e.trans g) q
theorem Ts.mono (h : Ts c1 σ H b) (e : Gr H H') : Ts c1 σ H' b := fun H1 Q g q => h H1 Q (e.trans g) q
theorem Vl.toR (h : Vl t1 σ H v) : Vr t1 σ H (fun u _ => u = v) := fun H1 Q g q => h H1 Q g fun H2 g2 => q v H2 g2 rfl
theorem Ls.toR {xs : List V} (h : Ls t1 σ H xs) : Vr t1 σ H (fun u H2 => ∃ p, u = .ref p ∧ H2 p = some (.lst xs)) := fun H1 Q g q => h H1 Q g fun p H2 _ g2 e => q _ H2 g2 ⟨p, rfl, e⟩
theorem Vl.is (h : Vl t1 σ H x) (e : x = y) : Vl t1 σ H y := e ▸ h
theorem Ts.is (h : Ts c1 σ H b) (e : b = c) : Ts c1 σ H c := e ▸ h
theorem Ls.is {xs ys : List V} (h : Ls t1 σ H xs) (e : xs = ys) : Ls t1 σ H ys := e ▸ h
theorem v_slot {i : Nat} (h : σ[i]? = some (some v)) : Vl (tVar i) σ H v := fun H1 _ _ q => ⟨v, h, q H1 (.refl _)⟩
theorem v_con : Vl (tC v) σ H v := fun H1 _ _ q => q H1 (.refl _)
theorem v_op (a : Vl t1 σ H x) (d : Vl t2 σ H y) (o : Bi r x y H z) : Vl (tOp r t1 t2) σ H z := fun H1 Q g q =>
  a H1 _ g fun H2 g2 => d H2 _ (g.trans g2) fun H3 g3 => o H3 _ ((g.trans g2).trans g3) fun H4 g4 => q H4 ((g2.trans g3).trans g4)
/-- the first operand, the second: of any kind -/
theorem v_opR {R S : V → Hp → Prop} (a : Vr t1 σ H R) (mR : ∀ {v H1 H2}, Gr H1 H2 → R v H1 → R v H2) (d : ∀ x H1, Gr H H1 → R x H1 → Vr t2 σ H1 S) (o : ∀ x y H1, Gr H H1 → R x H1 → S y H1 → Bi r x y H1 z) : Vl (tOp r t1 t2) σ H z := fun H1 Q g q =>
  a H1 _ g fun x H2 g2 hx => d x H2 (g.trans g2) hx H2 _ (.refl _) fun y H3 g3 hy => o x y H3 ((g.trans g2).trans g3) (mR g3 hx) hy H3 _ (.refl _) fun H4 g4 => q H4 ((g2.trans g3).trans g4)
theorem r_op {R S : V → Hp → Prop} (a : Vl t1 σ H x) (d : Vr t2 σ H R) (o : ∀ y H1, Gr H H1 → R y H1 → ∃ z, (∀ H2, Gr H1 H2 → S z H2) ∧ Bi r x y H1 z) : Vr (tOp r t1 t2) σ H S := fun H1 Q g q =>
  a H1 _ g fun H2 g2 => d H2 _ (g.trans g2) fun y H3 g3 hy => by
    obtain ⟨z, hz, b⟩ := o y H3 ((g.trans g2).trans g3) hy
    exact b H3 _ (.refl _) fun H4 g4 => q z H4 ((g2.trans g3).trans g4) (hz H4 g4)
theorem r_opV {R S : V → Hp → Prop} (a : Vr t1 σ H R) (d : ∀ H1, Gr H H1 → Vl t2 σ H1 y) (o : ∀ x H1, Gr H H1 → R x H1 → ∃ z, (∀ H2, Gr H1 H2 → S z H2) ∧ Bi r x y H1 z) : Vr (tOp r t1 t2) σ H S := fun H1 Q g q =>
  a H1 _ g fun x H2 g2 hx => d H2 (g.trans g2) H2 _ (.refl _) fun H3 g3 => by
    obtain ⟨z, hz, b⟩ := o x H2 (g.trans g2) hx
    exact b H3 _ g3 fun H4 g4 => q z H4 ((g2.trans g3).trans g4) (hz H4 (g3.trans g4))
theorem v_opL {xs : List V} (a : Ls t1 σ H xs) (d : ∀ H1, Gr H H1 → Vl t2 σ H1 y) (o : ∀ p H1, H1 p = some (.lst xs) → Gr H H1 → Bi r (.ref p) y H1 z) : Vl (tOp r t1 t2) σ H z := fun H1 Q g q =>
  a H1 _ g fun p H2 _ g2 hp => d H2 (g.trans g2) H2 _ (.refl _) fun H3 g3 => o p H3 (g3.lst hp) ((g.trans g2).trans g3) H3 _ (.refl _) fun H4 g4 => q H4 ((g2.trans g3).trans g4)
theorem v_opN {xs : List V} (a : Vl t1 σ H x) (d : Ls t2 σ H xs) (o : ∀ p H1, H1 p = some (.lst xs) → Gr H H1 → Bi r x (.ref p) H1 z) : Vl (tOp r t1 t2) σ H z := fun H1 Q g q =>
  a H1 _ g fun H2 g2 => d H2 _ (g.trans g2) fun p H3 _ g3 hp => o p H3 hp ((g.trans g2).trans g3) H3 _ (.refl _) fun H4 g4 => q H4 ((g2.trans g3).trans g4)
theorem v_opU {xs : List V} (a : Vl t1 σ H x) (d : Tu t2 σ H xs) (o : ∀ p H1, H1 p = some (.tup xs) → Gr H H1 → Bi r x (.ref p) H1 z) : Vl (tOp r t1 t2) σ H z := fun H1 Q g q =>
  a H1 _ g fun H2 g2 => d H2 _ (g.trans g2) fun p H3 _ g3 hp => o p H3 hp ((g.trans g2).trans g3) H3 _ (.refl _) fun H4 g4 => q H4 ((g2.trans g3).trans g4)
theorem v_un {f : V → Hp → VK → Prop} (a : Vl t1 σ H x) (o : ∀ H1 (Q : VK), Gr H H1 → Q z H1 → f x H1 Q) : Vl (tUn f t1) σ H z := fun H1 Q g q =>
  a H1 _ g fun H2 g2 => o H2 _ (g.trans g2) (q H2 g2)
theorem bi_0 {f : Int → Int → V} {i j : Int} : Bi (rI0 f) (.int i) (.int j) H (f i j) := fun H1 _ _ q => ⟨i, j, rfl, rfl, q H1 (.refl _)⟩
theorem bi_C {C : Int → Int → Prop} {f : Int → Int → V} {i j : Int} (h : C i j) : Bi (rI C f) (.int i) (.int j) H (f i j) := fun H1 _ _ q => ⟨i, j, rfl, rfl, h, q H1 (.refl _)⟩
theorem bi_eq (h : scal x y = true) : Bi rEq x y H (.bl (decide (x = y))) := fun H1 _ _ q => ⟨h, q H1 (.refl _)⟩
theorem bi_ne (h : scal x y = true) : Bi rNe x y H (.bl (!decide (x = y))) := fun H1 _ _ q => ⟨h, q H1 (.refl _)⟩
theorem bi_ixL {p : Addr} {xs : List V} {i : Int} (s : SqL K H p xs) (h : atI xs i = some v) : Bi (rIxL K) (.ref p) (.int i) H v := fun H1 _ g q => ⟨p, xs, i, v, rfl, rfl, g.sl s, h, q H1 (.refl _)⟩
theorem bi_ixT {p : Addr} {xs : List V} {i : Int} (s : SqT K H p xs) (h : atI xs i = some v) : Bi (rIxT K) (.ref p) (.int i) H v := fun H1 _ g q => ⟨p, xs, i, v, rfl, rfl, g.st s, h, q H1 (.refl _)⟩
theorem bi_ixS {w : Str} {i : Int} {k : Nat} (s : w.length ≤ 100000) (h : atI w.cps.toList i = some k) : Bi rIxS (.str w) (.int i) H (.str ⟨#[k]⟩) := fun H1 _ _ q => ⟨w, i, k, rfl, rfl, small s, h, q H1 (.refl _)⟩
theorem bi_cat {u w : Str} (h : u.length + w.length ≤ 100000) : Bi (fun x y H Q => ∃ i j, x = .str i ∧ y = .str j ∧ i.length + j.length ≤ sizeLine ∧ Q (.str (i ++ j)) H) (.str u) (.str w) H (.str (u ++ w)) := fun H1 _ _ q => ⟨u, w, rfl, rfl, small h, q H1 (.refl _)⟩
theorem bi_isN : Bi (fun x y H Q => y = .non ∧ Q (.bl (decide (x = .non))) H) x .non H (.bl (decide (x = .non))) := fun H1 _ _ q => ⟨rfl, q H1 (.refl _)⟩
theorem bi_notN : Bi (fun x y H Q => y = .non ∧ Q (.bl (!decide (x = .non))) H) x .non H (.bl (!decide (x = .non))) := fun H1 _ _ q => ⟨rfl, q H1 (.refl _)⟩
theorem bi_inT {neg : Bool} {p : Addr} {xs : List V} (s : SqT K H p xs) (hx : flatV x = true) (ha : xs.all flatV = true) : Bi (rIn K neg) x (.ref p) H (.bl (if neg then !inV x xs else inV x xs)) := fun H1 _ g q => ⟨p, xs, rfl, .inr (g.st s), hx, ha, q H1 (.refl _)⟩
theorem bi_inL {neg : Bool} {p : Addr} {xs : List V} (s : SqL K H p xs) (hx : flatV x = true) (ha : xs.all flatV = true) : Bi (rIn K neg) x (.ref p) H (.bl (if neg then !inV x xs else inV x xs)) := fun H1 _ g q => ⟨p, xs, rfl, .inl (g.sl s), hx, ha, q H1 (.refl _)⟩
theorem bi_eqD {d e : PyData} (hx : Dp K H x d) (hy : Dp K H y e) (sd : SeqAt.shaped d = true) (se : SeqAt.shaped e = true) : Bi (rEqD K) x y H (.bl (PyData.eqv d e)) := fun H1 _ g q => ⟨d, e, g.dp hx, g.dp hy, sd, se, q H1 (.refl _)⟩
theorem bi_neD {d e : PyData} (hx : Dp K H x d) (hy : Dp K H y e) (sd : SeqAt.shaped d = true) (se : SeqAt.shaped e = true) : Bi (rNeD K) x y H (.bl (!PyData.eqv d e)) := fun H1 _ g q => ⟨d, e, g.dp hx, g.dp hy, sd, se, q H1 (.refl _)⟩

/-! #### tests -/
theorem s_test (h : Vl t1 σ H (.bl b)) : Ts (tTest t1) σ H b := fun H1 _ g q => h H1 _ g fun H2 g2 => ⟨b, rfl, q H2 g2⟩
theorem s_B (h : Vl t1 σ H (.bl b)) : Ts (tB t1) σ H b := fun H1 _ g q => h H1 _ g fun H2 g2 => ⟨b, rfl, q H2 g2⟩
theorem s_truB (h : Vl t1 σ H (.bl b)) : Ts (fun σ H Q => t1 σ H fun x H' => ∃ k, TruV K x H' k ∧ Q k H') σ H b := fun H1 _ g q => h H1 _ g fun H2 g2 => ⟨b, rfl, q H2 g2⟩
theorem s_truL {a : Addr} {xs : List V} (h : Vl t1 σ H (.ref a)) (s : SqL K H a xs) : Ts (fun σ H Q => t1 σ H fun x H' => ∃ k, TruV K x H' k ∧ Q k H') σ H (!xs.isEmpty) := fun H1 _ g q => h H1 _ g fun H2 g2 => ⟨_, .inl ⟨xs, (g.trans g2).sl s, rfl⟩, q H2 g2⟩
theorem s_not (h : Ts c1 σ H b) : Ts (tNot c1) σ H (!b) := fun H1 _ g q => h H1 _ g fun H2 g2 => q H2 g2
theorem s_and (h : Ts c1 σ H b) (k : b = true → Ts c2 σ H c) : Ts (tAnd c1 c2) σ H (b && c) := fun H1 Q g q => h H1 _ g fun H2 g2 => by
  cases b
  · exact iteF (q H2 g2)
  · exact iteT (k rfl H2 _ (g.trans g2) fun H3 g3 => q H3 (g2.trans g3))
theorem s_or (h : Ts c1 σ H b) (k : b = false → Ts c2 σ H c) : Ts (tOr c1 c2) σ H (b || c) := fun H1 Q g q => h H1 _ g fun H2 g2 => by
  cases b
  · exact iteF (k rfl H2 _ (g.trans g2) fun H3 g3 => q H3 (g2.trans g3))
  · exact iteT (q H2 g2)
theorem v_chain {r' : R2} (a : Vl t1 σ H x) (d : Vl t2 σ H y) (o : Bi r x y H (.bl b)) (k : b = true → Vl t3 σ H z) (o2 : b = true → Bi r' y z H (.bl c)) : Vl (tChain r r' t1 t2 t3) σ H (.bl (b && c)) := fun H1 Q g q =>
  a H1 _ g fun H2 g2 => d H2 _ (g.trans g2) fun H3 g3 => o H3 _ ((g.trans g2).trans g3) fun H4 g4 => ⟨b, rfl, by
    cases b
    · exact iteF (q H4 ((g2.trans g3).trans g4))
    · exact iteT (k rfl H4 _ (((g.trans g2).trans g3).trans g4) fun H5 g5 => o2 rfl H5 _ ((((g.trans g2).trans g3).trans g4).trans g5) fun H6 g6 => q H6 ((((g2.trans g3).trans g4).trans g5).trans g6))⟩
theorem v_and (h : Vl t1 σ H (.bl b)) (k : b = true → Vl t2 σ H (.bl c)) : Vl (tAndV t1 t2) σ H (.bl (b && c)) := fun H1 Q g q => h H1 _ g fun H2 g2 => ⟨b, rfl, by
  cases b
  · exact iteF (q H2 g2)
  · exact iteT (k rfl H2 _ (g.trans g2) fun H3 g3 => q H3 (g2.trans g3))⟩
theorem v_or (h : Vl t1 σ H (.bl b)) (k : b = false → Vl t2 σ H (.bl c)) : Vl (tOrV t1 t2) σ H (.bl (b || c)) := fun H1 Q g q => h H1 _ g fun H2 g2 => ⟨b, rfl, by
  cases b
  · exact iteF (k rfl H2 _ (g.trans g2) fun H3 g3 => q H3 (g2.trans g3))
  · exact iteT (q H2 g2)⟩
theorem v_not (h : Vl t1 σ H (.bl b)) : Vl (tNotV t1) σ H (.bl (!b)) := fun H1 _ g q => h H1 _ g fun H2 g2 => ⟨b, rfl, q H2 g2⟩
theorem v_if (h : Ts c1 σ H b) (k1 : b = true → Vl t1 σ H v) (k2 : b = false → Vl t2 σ H v) : Vl (tIf c1 t1 t2) σ H v := fun H1 Q g q => h H1 _ g fun H2 g2 => by
  cases b
  · exact iteF (k2 rfl H2 _ (g.trans g2) fun H3 g3 => q H3 (g2.trans g3))
  · exact iteT (k1 rfl H2 _ (g.trans g2) fun H3 g3 => q H3 (g2.trans g3))

/-! #### arguments, calls, new objects -/
variable {a1 : TA} {vs xs : List V}
theorem g_nil : Ag tNil σ H [] := fun H1 _ _ q => q H1 (.refl _)
theorem g_cons (h : Vl t1 σ H x) (k : Ag a1 σ H vs) : Ag (tCons t1 a1) σ H (x :: vs) := fun H1 _ g q => h H1 _ g fun H2 g2 => k H2 _ (g.trans g2) fun H3 g3 => q H3 (g2.trans g3)
theorem l_lst (h : Ag a1 σ H vs) (n : vs.length ≤ 100000) : Ls (tLst a1) σ H vs := fun H1 _ g q => h H1 _ g fun H2 g2 => ⟨small n, fun p hp => q p _ (g2.free hp) (g2.trans (.new hp)) upd_same⟩
theorem u_tup (h : Ag a1 σ H vs) (n : vs.length ≤ 100000) : Tu (tTup a1) σ H vs := fun H1 _ g q => h H1 _ g fun H2 g2 => ⟨small n, fun p hp => q p _ (g2.free hp) (g2.trans (.new hp)) upd_same⟩
theorem v_call {sp : Sp} {ds : List V} {E : XK} (h : Ag a1 σ H vs) (k : SpV sp (vs ++ ds) H z) : Vl (tCall sp ds E a1) σ H z := fun H1 _ g q => h H1 _ g fun H2 g2 => k H2 _ _ (g.trans g2) fun H3 g3 => q H3 (g2.trans g3)
theorem l_call {sp : Sp} {ds : List V} {E : XK} (h : Ag a1 σ H vs) (k : SpL sp (vs ++ ds) H xs) : Ls (tCall sp ds E a1) σ H xs := fun H1 _ g q => h H1 _ g fun H2 g2 => k H2 _ _ (g.trans g2) fun p H3 hp g3 e => q p H3 (g2.free hp) (g2.trans g3) e
theorem r_call {sp : Sp} {ds : List V} {E : XK} {R : V → Hp → Prop} (h : Ag a1 σ H vs) (k : SpR sp (vs ++ ds) H R) : Vr (tCall sp ds E a1) σ H R := fun H1 _ g q => h H1 _ g fun H2 g2 => k H2 _ _ (g.trans g2) fun v H3 g3 e => q v H3 (g2.trans g3) e
/-- a built-in's call, by its reading -/
theorem v_blt {f : List V → Hp → VK → Prop} (h : Ag a1 σ H vs) (k : ∀ H1 (Q : VK), Gr H H1 → (∀ H2, Gr H1 H2 → Q z H2) → f vs H1 Q) : Vl (tCB f a1) σ H z := fun H1 _ g q => h H1 _ g fun H2 g2 => k H2 _ (g.trans g2) fun H3 g3 => q H3 (g2.trans g3)
theorem l_blt {f : List V → Hp → VK → Prop} (h : Ag a1 σ H vs) (k : ∀ H1 (Q : VK), Gr H H1 → (∀ p H2, H1 p = none → Gr H1 H2 → H2 p = some (.lst xs) → Q (.ref p) H2) → f vs H1 Q) : Ls (tCB f a1) σ H xs := fun H1 _ g q => h H1 _ g fun H2 g2 => k H2 _ (g.trans g2) fun p H3 hp g3 e => q p H3 (g2.free hp) (g2.trans g3) e
abbrev fLen (K : PySem.W.Frag) : List V → Hp → VK → Prop := fun xs H Q => ∃ p ys, xs = [.ref p] ∧ (SqL K H p ys ∨ SqT K H p ys) ∧ Q (.int ys.length) H
theorem v_len {p : Addr} {xs : List V} (h : Vl t1 σ H (.ref p)) (s : SqL K H p xs) : Vl (tCB (fLen K) (tCons t1 tNil)) σ H (.int xs.length) := v_blt (g_cons h g_nil) fun H1 _ g q => ⟨p, xs, rfl, .inl (g.sl s), q H1 (.refl _)⟩
theorem v_lenS {w : Str} (h : Vl t1 σ H (.str w)) (s : w.length ≤ 100000) : Vl (tCB (fun xs H Q => ∃ z, xs = [.str z] ∧ z.length ≤ sizeLine ∧ Q (.int z.length) H) (tCons t1 tNil)) σ H (.int w.length) := v_blt (g_cons h g_nil) fun H1 _ _ q => ⟨w, rfl, small s, q H1 (.refl _)⟩
theorem v_isi {w : V} {u t : Value} (h : Vl t1 σ H x) (h2 : Vl t2 σ H w) (k : ClsV w u) (ty : ∀ H1, Gr H H1 → TyX K H1 x t) (e : PySem.W.kitOne K t u = some b) : Vl (tCB (rIsi K) (tCons t1 (tCons t2 tNil))) σ H (.bl b) := v_blt (g_cons h (g_cons h2 g_nil)) fun H1 _ g q => ⟨x, w, t, u, b, rfl, k, ty H1 g, e, q H1 (.refl _)⟩
theorem v_isbB (h : Vl t1 σ H (.bl b)) : Vl (tCB (rIsi K) (tCons t1 (tCons (tC (.ty "bool")) tNil))) σ H (.bl true) := v_isi h v_con (.ty _) (fun _ _ => .base (.bl b)) (kit_ty (by decide +kernel))
theorem v_isiI {i : Int} (h : Vl t1 σ H (.int i)) : Vl (tCB (rIsi K) (tCons t1 (tCons (tC (.ty "int")) tNil))) σ H (.bl true) := v_isi h v_con (.ty _) (fun _ _ => .base (.int i)) (kit_ty (by decide +kernel))
theorem v_isbI {i : Int} (h : Vl t1 σ H (.int i)) : Vl (tCB (rIsi K) (tCons t1 (tCons (tC (.ty "bool")) tNil))) σ H (.bl false) := v_isi h v_con (.ty _) (fun _ _ => .base (.int i)) (kit_ty (by decide +kernel))
theorem v_isiN (h : Vl t1 σ H .non) : Vl (tCB (rIsi K) (tCons t1 (tCons (tC (.ty "int")) tNil))) σ H (.bl false) := v_isi h v_con (.ty _) (fun _ _ => .base .non) (kit_ty (by decide +kernel))
theorem v_issS {w : Str} (h : Vl t1 σ H (.str w)) : Vl (tCB (rIsi K) (tCons t1 (tCons (tC (.ty "str")) tNil))) σ H (.bl true) := v_isi h v_con (.ty _) (fun _ _ => .base (.str w)) (kit_ty (by decide +kernel))
theorem v_max {i j : Int} (h : Vl t1 σ H (.int i)) (h2 : Vl t2 σ H (.int j)) : Vl (tCB (fun xs H Q => ∃ i j, xs = [.int i, .int j] ∧ Q (.int (if j > i then j else i)) H) (tCons t1 (tCons t2 tNil))) σ H (.int (if j > i then j else i)) := v_blt (g_cons h (g_cons h2 g_nil)) fun H1 _ _ q => ⟨i, j, rfl, q H1 (.refl _)⟩
theorem v_min {i j : Int} (h : Vl t1 σ H (.int i)) (h2 : Vl t2 σ H (.int j)) : Vl (tCB (fun xs H Q => ∃ i j, xs = [.int i, .int j] ∧ Q (.int (if j < i then j else i)) H) (tCons t1 (tCons t2 tNil))) σ H (.int (if j < i then j else i)) := v_blt (g_cons h (g_cons h2 g_nil)) fun H1 _ _ q => ⟨i, j, rfl, q H1 (.refl _)⟩
theorem v_str {i : Int} (h : Vl t1 σ H (.int i)) (n : i.natAbs.log2 < 1920) : Vl (tCB (fun xs H Q => ∃ i, xs = [.int i] ∧ i.natAbs.log2 < 1920 ∧ Q (.str (toString i)) H) (tCons t1 tNil)) σ H (.str (toString i)) := v_blt (g_cons h g_nil) fun H1 _ _ q => ⟨i, rfl, n, q H1 (.refl _)⟩
theorem v_intB (h : Vl t1 σ H (.bl b)) : Vl (tCB (fun xs H Q => (∃ i, xs = [.int i] ∧ Q (.int i) H) ∨ ∃ k, xs = [.bl k] ∧ Q (.int (if k then 1 else 0)) H) (tCons t1 tNil)) σ H (.int (if b then 1 else 0)) := v_blt (g_cons h g_nil) fun H1 _ _ q => .inr ⟨b, rfl, q H1 (.refl _)⟩
theorem l_list {p : Addr} {xs : List V} (h : Vl t1 σ H (.ref p)) (s : SqL K H p xs) : Ls (tCB (fun xs H Q => ∃ p ys, xs = [.ref p] ∧ (SqL K H p ys ∨ SqT K H p ys) ∧ ∀ l, H l = none → Q (.ref l) (upd H l (.lst ys))) (tCons t1 tNil)) σ H xs :=
  l_blt (g_cons h g_nil) fun _ _ g q => ⟨p, xs, rfl, .inl (g.sl s), fun l hl => q l _ hl (.new hl) upd_same⟩
/-- slices -/
def Pt (to : TO) (σ : L2.St) (H : Hp) (o : Option Int) : Prop := ∀ (H1 : Hp) (Q : Option Int → Hp → Prop), Gr H H1 → (∀ H2, Gr H1 H2 → Q o H2) → to σ H1 Q
theorem p_no : Pt tNoPart σ H none := fun H1 _ _ q => q H1 (.refl _)
theorem p_int {i : Int} (h : Vl t1 σ H (.int i)) : Pt (tPart t1) σ H (some i) := fun H1 _ g q => h H1 _ g fun H2 g2 => ⟨i, rfl, q H2 g2⟩
theorem l_slice {tl th : TO} {a : Addr} {xs : List V} {lo hi : Option Int} (h : Vl t1 σ H (.ref a)) (h1 : Pt tl σ H lo) (h2 : Pt th σ H hi) (s : SqL K H a xs) : Ls (tSl (rSlL K) t1 tl th) σ H (cutV xs lo hi) := fun H1 _ g q =>
  h H1 _ g fun H2 g2 => h1 H2 _ (g.trans g2) fun H3 g3 => h2 H3 _ ((g.trans g2).trans g3) fun H4 g4 => ⟨a, xs, rfl, (((g.trans g2).trans g3).trans g4).sl s, fun p hp => q p _ (((g2.trans g3).trans g4).free hp) (((g2.trans g3).trans g4).trans (.new hp)) upd_same⟩

/-! #### statements; S..: the last one, B..: something behind it -/
variable {D : Ends} {u1 u2 u3 : TS} {g1 : TG} {i : Nat}
theorem S_ret (h : Vl t1 σ H v) (k : ∀ H1, Gr H H1 → D.rt v H1) : tRet t1 D σ H := h H _ (.refl _) k
theorem S_retL (h : Ls t1 σ H xs) (k : ∀ p H1, H p = none → Gr H H1 → H1 p = some (.lst xs) → D.rt (.ref p) H1) : tRet t1 D σ H := h H _ (.refl _) k
theorem S_retR {R : V → Hp → Prop} (h : Vr t1 σ H R) (k : ∀ v H1, Gr H H1 → R v H1 → D.rt v H1) : tRet t1 D σ H := h H _ (.refl _) k
theorem S_set (h : Vl t1 σ H v) (k : ∀ H1, Gr H H1 → D.nx (σ.set i (some v)) H1) : tAsg t1 (gName i) D σ H := h H _ (.refl _) k
theorem S_setL (h : Ls t1 σ H xs) (k : ∀ p H1, H p = none → Gr H H1 → H1 p = some (.lst xs) → D.nx (σ.set i (some (.ref p))) H1) : tAsg t1 (gName i) D σ H := h H _ (.refl _) k
theorem S_setU (h : Tu t1 σ H xs) (k : ∀ p H1, H p = none → Gr H H1 → H1 p = some (.tup xs) → D.nx (σ.set i (some (.ref p))) H1) : tAsg t1 (gName i) D σ H := h H _ (.refl _) k
theorem S_setR {R : V → Hp → Prop} (h : Vr t1 σ H R) (k : ∀ v H1, Gr H H1 → R v H1 → D.nx (σ.set i (some v)) H1) : tAsg t1 (gName i) D σ H := h H _ (.refl _) k
theorem S_drop (h : Vl t1 σ H v) (k : ∀ H1, Gr H H1 → D.nx σ H1) : tDrop t1 D σ H := h H _ (.refl _) k
theorem S_if (h : Ts c1 σ H b) (k1 : b = true → ∀ H1, Gr H H1 → u1 D σ H1) (k2 : b = false → ∀ H1, Gr H H1 → u2 D σ H1) : tIfS c1 u1 u2 D σ H := h H _ (.refl _) fun H1 g => by
  cases b
  · exact iteF (k2 rfl H1 g)
  · exact iteT (k1 rfl H1 g)
theorem B_set (h : Vl t1 σ H v) (k : ∀ H1, Gr H H1 → u1 D (σ.set i (some v)) H1) : tSeq (tAsg t1 (gName i)) u1 D σ H := S_set (D := { D with nx := u1 D }) h k
theorem B_setL (h : Ls t1 σ H xs) (k : ∀ p H1, H p = none → Gr H H1 → H1 p = some (.lst xs) → u1 D (σ.set i (some (.ref p))) H1) : tSeq (tAsg t1 (gName i)) u1 D σ H := S_setL (D := { D with nx := u1 D }) h k
theorem B_setU (h : Tu t1 σ H xs) (k : ∀ p H1, H p = none → Gr H H1 → H1 p = some (.tup xs) → u1 D (σ.set i (some (.ref p))) H1) : tSeq (tAsg t1 (gName i)) u1 D σ H := S_setU (D := { D with nx := u1 D }) h k
theorem B_setR {R : V → Hp → Prop} (h : Vr t1 σ H R) (k : ∀ v H1, Gr H H1 → R v H1 → u1 D (σ.set i (some v)) H1) : tSeq (tAsg t1 (gName i)) u1 D σ H := S_setR (D := { D with nx := u1 D }) h k
theorem B_drop (h : Vl t1 σ H v) (k : ∀ H1, Gr H H1 → u1 D σ H1) : tSeq (tDrop t1) u1 D σ H := S_drop (D := { D with nx := u1 D }) h k
theorem B_if (h : Ts c1 σ H b) (k1 : b = true → ∀ H1, Gr H H1 → u1 { D with nx := u3 D } σ H1) (k2 : b = false → ∀ H1, Gr H H1 → u2 { D with nx := u3 D } σ H1) : tSeq (tIfS c1 u1 u2) u3 D σ H := S_if (D := { D with nx := u3 D }) h k1 k2
theorem B_when (h : Ts c1 σ H b) (k1 : b = true → ∀ H1, Gr H H1 → u1 { D with nx := u3 D } σ H1) (k2 : b = false → ∀ H1, Gr H H1 → u3 D σ H1) : tSeq (tIfS c1 u1 tNext) u3 D σ H := S_if (D := { D with nx := u3 D }) h k1 k2
theorem S_when (h : Ts c1 σ H b) (k1 : b = true → ∀ H1, Gr H H1 → u1 D σ H1) (k2 : b = false → ∀ H1, Gr H H1 → D.nx σ H1) : tIfS c1 u1 tNext D σ H := S_if h k1 k2
/-- a slot set anew in an if without else, told by what it holds behind -/
theorem S_whenSet (h : Ts c1 σ H b) (hy : σ[i]? = some (some y)) (k1 : b = true → Vl t1 σ H v) (hv : b = false → v = y) (k : ∀ H1, Gr H H1 → D.nx (σ.set i (some v)) H1) : tIfS c1 (tAsg t1 (gName i)) tNext D σ H :=
  S_when h (fun hb H1 g => S_set ((k1 hb).mono g) fun H2 g2 => k H2 (g.trans g2)) fun hb H1 g => by
    obtain ⟨hi, e2⟩ := List.getElem?_eq_some_iff.mp hy
    have h2 := k H1 g
    rw [hv hb, ← e2, List.set_getElem_self hi] at h2
    exact h2
theorem B_whenSet (h : Ts c1 σ H b) (hy : σ[i]? = some (some y)) (k1 : b = true → Vl t1 σ H v) (hv : b = false → v = y) (k : ∀ H1, Gr H H1 → u3 D (σ.set i (some v)) H1) : tSeq (tIfS c1 (tAsg t1 (gName i)) tNext) u3 D σ H := S_whenSet (D := { D with nx := u3 D }) h hy k1 hv k
theorem B_whenInt {m n : Int} (h : Ts c1 σ H b) (hy : σ[i]? = some (some (.int n))) (k1 : Vl t1 σ H (.int m)) (k : ∀ H1, Gr H H1 → u3 D (σ.set i (some (.int (if b = true then m else n)))) H1) : tSeq (tIfS c1 (tAsg t1 (gName i)) tNext) u3 D σ H :=
  B_whenSet h hy (fun hb => k1.is (by rw [if_pos hb])) (fun hb => by rw [if_neg (by rw [hb]; exact Bool.false_ne_true)]) k
theorem B_cut {M : L2.St → Hp → Prop} (h : u1 { D with nx := M } σ H) (k : ∀ σ' H', M σ' H' → u2 D σ' H') : Evl.tCut u1 u2 D σ H := ⟨M, h, k⟩
/-- xs.append(e), the list known by its place -/
theorem S_app {l : Addr} {xs : List V} (hl : H l = some (.lst xs)) (a : Vl t1 σ H (.ref l)) (h : Vl t2 σ H v) (n : xs.length < 100000) (k : ∀ H1, Gr H H1 → D.nx σ (upd H1 l (.lst (xs ++ [v])))) : tDrop (tBM K "list" rAppend t1 (tCons t2 tNil)) D σ H := a H _ (.refl _) fun H1 g =>
  ⟨.inl ⟨rfl, xs, SqL.of (g.lst hl)⟩, h H1 _ g fun H2 g2 => ⟨l, xs, v, rfl, rfl, g2.lst (g.lst hl), small' n, k H2 (g.trans g2)⟩⟩
theorem S_appU {l : Addr} {xs ys : List V} (hl : H l = some (.lst xs)) (a : Vl t1 σ H (.ref l)) (h : Tu t2 σ H ys) (n : xs.length < 100000) (k : ∀ p H1, H p = none → Gr H H1 → H1 p = some (.tup ys) → D.nx σ (upd H1 l (.lst (xs ++ [.ref p])))) : tDrop (tBM K "list" rAppend t1 (tCons t2 tNil)) D σ H := a H _ (.refl _) fun H1 g =>
  ⟨.inl ⟨rfl, xs, SqL.of (g.lst hl)⟩, h H1 _ g fun p H2 hp g2 e => ⟨l, xs, .ref p, rfl, rfl, g2.lst (g.lst hl), small' n, k p H2 (g.free hp) (g.trans g2) e⟩⟩

theorem B_appU {l : Addr} {xs ys : List V} (hl : H l = some (.lst xs)) (a : Vl t1 σ H (.ref l)) (h : Tu t2 σ H ys) (n : xs.length < 100000) (k : ∀ p H1, H p = none → Gr H H1 → H1 p = some (.tup ys) → u1 D σ (upd H1 l (.lst (xs ++ [.ref p])))) : tSeq (tDrop (tBM K "list" rAppend t1 (tCons t2 tNil))) u1 D σ H := S_appU (D := { D with nx := u1 D }) hl a h n k
theorem B_app {l : Addr} {xs : List V} (hl : H l = some (.lst xs)) (a : Vl t1 σ H (.ref l)) (h : Vl t2 σ H v) (n : xs.length < 100000) (k : ∀ H1, Gr H H1 → u1 D σ (upd H1 l (.lst (xs ++ [v])))) : tSeq (tDrop (tBM K "list" rAppend t1 (tCons t2 tNil))) u1 D σ H := S_app (D := { D with nx := u1 D }) hl a h n k

/-! #### loops -/
theorem S_for1 {j : Nat} {n : Int} (h : Ag a1 σ H [.int n]) (hn : 0 ≤ n ∧ n ≤ 100000) (Pv : Nat → L2.St → Hp → Prop) (h0 : ∀ H1, Gr H H1 → Pv 0 σ H1)
    (hs : ∀ (m : Nat) σ' H', (m : Int) < n → Pv m σ' H' → u1 { D with nx := Pv (m + 1), ct := Pv (m + 1), bk := D.nx } (σ'.set j (some (.int (m : Int)))) H') (hd : ∀ σ' H', Pv n.toNat σ' H' → D.nx σ' H') : tFor (iRng1 a1) (gName j) u1 D σ H :=
  h H _ (.refl _) fun H1 g => ⟨n, rfl, by omega, by omega, for_range (lo := 0) (n := n.toNat) Pv (h0 H1 g) (fun m σ' H' hm p => by
    have q := hs m σ' H' (by omega) p
    rw [← Int.zero_add (m : Int)] at q
    exact q) hd⟩
theorem B_for1 {j : Nat} {n : Int} (h : Ag a1 σ H [.int n]) (hn : 0 ≤ n ∧ n ≤ 100000) (Pv : Nat → L2.St → Hp → Prop) (h0 : ∀ H1, Gr H H1 → Pv 0 σ H1)
    (hs : ∀ (m : Nat) σ' H', (m : Int) < n → Pv m σ' H' → u1 { D with nx := Pv (m + 1), ct := Pv (m + 1), bk := u2 D } (σ'.set j (some (.int (m : Int)))) H') (hd : ∀ σ' H', Pv n.toNat σ' H' → u2 D σ' H') : tSeq (tFor (iRng1 a1) (gName j) u1) u2 D σ H :=
  S_for1 (D := { D with nx := u2 D }) h hn Pv h0 hs hd
theorem S_forL {a : Addr} {xs : List V} (h : Vl t1 σ H (.ref a)) (s : SqL K H a xs) (Pv : Nat → L2.St → Hp → Prop) (h0 : ∀ H1, Gr H H1 → Pv 0 σ H1) (hl : ∀ m σ' H', m ≤ xs.length → Pv m σ' H' → SqL K H' a xs)
    (hs : ∀ m x σ' H', xs[m]? = some x → Pv m σ' H' → g1 x σ' H' fun σ2 H2 => u1 { D with nx := Pv (m + 1), ct := Pv (m + 1), bk := D.nx } σ2 H2) (hd : ∀ σ' H', Pv xs.length σ' H' → D.nx σ' H') : tFor (iList K t1) g1 u1 D σ H :=
  h H _ (.refl _) fun H1 g => ⟨a, rfl, ⟨xs, g.sl s⟩, for_list Pv (h0 H1 g) hl hs hd⟩
theorem B_forL {a : Addr} {xs : List V} (h : Vl t1 σ H (.ref a)) (s : SqL K H a xs) (Pv : Nat → L2.St → Hp → Prop) (h0 : ∀ H1, Gr H H1 → Pv 0 σ H1) (hl : ∀ m σ' H', m ≤ xs.length → Pv m σ' H' → SqL K H' a xs)
    (hs : ∀ m x σ' H', xs[m]? = some x → Pv m σ' H' → g1 x σ' H' fun σ2 H2 => u1 { D with nx := Pv (m + 1), ct := Pv (m + 1), bk := u2 D } σ2 H2) (hd : ∀ σ' H', Pv xs.length σ' H' → u2 D σ' H') : tSeq (tFor (iList K t1) g1 u1) u2 D σ H :=
  S_forL (D := { D with nx := u2 D }) h s Pv h0 hl hs hd
theorem S_while (W : Nat → L2.St → Hp → Prop) (m0 : Nat) (h0 : W m0 σ H)
    (hs : ∀ m σ' H', W m σ' H' → ∃ b, Ts c1 σ' H' b ∧ (b = true → ∀ H1, Gr H' H1 → ∃ N : L2.St → Hp → Prop, (∀ σ2 H2, N σ2 H2 → ∃ m', m' < m ∧ W m' σ2 H2) ∧ u1 { D with nx := N, ct := N, bk := D.nx } σ' H1) ∧ (b = false → ∀ H1, Gr H' H1 → D.nx σ' H1)) : tWhile c1 u1 D σ H :=
  ⟨W, ⟨m0, h0⟩, fun m σ' H' hw => by
    obtain ⟨b, hb, y1, n1⟩ := hs m σ' H' hw
    refine hb H' _ (.refl _) fun H1 g => ?_
    cases b
    · exact n1 rfl H1 g
    · exact y1 rfl H1 g⟩
theorem B_while (W : Nat → L2.St → Hp → Prop) (m0 : Nat) (h0 : W m0 σ H)
    (hs : ∀ m σ' H', W m σ' H' → ∃ b, Ts c1 σ' H' b ∧ (b = true → ∀ H1, Gr H' H1 → ∃ N : L2.St → Hp → Prop, (∀ σ2 H2, N σ2 H2 → ∃ m', m' < m ∧ W m' σ2 H2) ∧ u1 { D with nx := N, ct := N, bk := u2 D } σ' H1) ∧ (b = false → ∀ H1, Gr H' H1 → u2 D σ' H1)) : tSeq (tWhile c1 u1) u2 D σ H :=
  S_while (D := { D with nx := u2 D }) W m0 h0 hs

/-! #### comprehensions: the turns that give, and what they give -/
def out (n : Nat) (f : Nat → Bool) (val : Nat → V) : List V := ((List.range n).filter f).map val
theorem out_succ (n : Nat) (f : Nat → Bool) (val : Nat → V) : out (n + 1) f val = out n f val ++ (if f n = true then [val n] else []) := by
  unfold out
  rw [List.range_succ, List.filter_append, List.map_append, List.filter_cons]
  cases f n <;> rfl
theorem out_le (n : Nat) (f : Nat → Bool) (val : Nat → V) : (out n f val).length ≤ n := by
  unfold out
  rw [List.length_map]
  exact Nat.le_trans (List.length_filter_le _ _) (Nat.le_of_eq List.length_range)
def Cmp (H : Hp) (f : Nat → Bool) (val : Nat → V) (p : Addr) (m : Nat) (H' : Hp) : Prop := H p = none ∧ Gr H H' ∧ H' p = some (.lst (out m f val))
theorem Cmp.turn {f : Nat → Bool} {val : Nat → V} {p : Addr} {m : Nat} {σ2 : L2.St} (w : Cmp H f val p m H') (hm : m < 50000) (ht : Ts c1 σ2 H (f m)) (he : f m = true → Vl t1 σ2 H (val m)) :
    c1 σ2 H' fun b H3 => if b = true then t1 σ2 H3 fun y H4 => ∃ acc, H4 p = some (.lst acc) ∧ acc.length < sizeLine ∧ Cmp H f val p (m + 1) (upd H4 p (.lst (acc ++ [y]))) else Cmp H f val p (m + 1) H3 := by
  obtain ⟨w1, w2, w3⟩ := w
  refine ht H' _ w2 fun H3 g3 => ?_
  have o := out_succ m f val
  cases hf : f m
  · rw [hf] at o
    refine iteF ⟨w1, w2.trans g3, ?_⟩
    rw [o, if_neg Bool.false_ne_true, List.append_nil]
    exact g3.lst w3
  · rw [hf, if_pos rfl] at o
    refine iteT (he hf H3 _ (w2.trans g3) fun H4 g4 => ⟨out m f val, g4.lst (g3.lst w3), small' (by have := out_le m f val; omega), w1, ((w2.trans g3).trans g4).chg w1, ?_⟩)
    rw [o]
    exact upd_same
theorem l_cmp1 {j : Nat} {ws : List Nat} {n : Int} (f : Nat → Bool) (val : Nat → V) (h : Ag a1 σ H [.int n]) (hn : 0 ≤ n ∧ n ≤ 40000) (hw : ∀ x, wipe ((wipe σ ws).set j (some x)) ws = wipe σ ws)
    (ht : ∀ (m : Nat) H1, Gr H H1 → (m : Int) < n → Ts c1 ((wipe σ ws).set j (some (.int (m : Int)))) H1 (f m)) (he : ∀ (m : Nat) H1, Gr H H1 → (m : Int) < n → f m = true → Vl t1 ((wipe σ ws).set j (some (.int (m : Int)))) H1 (val m)) :
    Ls (tLc (iRng1 a1) (gName j) c1 t1 ws) σ H (out n.toNat f val) := fun H0 Q g q => h H0 _ g fun H1 g1 => ⟨n, rfl, by omega, by omega, fun p hp =>
  lc_range (lo := 0) (n := n.toNat) (Cmp H1 f val p) ⟨hp, .new hp, upd_same⟩ (fun m H' hm w => by
    have t := ht m H1 (g.trans g1) (by omega)
    have e := he m H1 (g.trans g1) (by omega)
    rw [← Int.zero_add (m : Int)] at t e
    exact ⟨hw _, w.turn (by omega) t e⟩) fun H' w => q p H' (g1.free w.1) (g1.trans w.2.1) w.2.2⟩
theorem l_cmpL {a : Addr} {xs : List V} {j : Nat} {ws : List Nat} (f : Nat → Bool) (val : Nat → V) (h : Vl t2 σ H (.ref a)) (s : SqL K H a xs) (hz : xs.length ≤ 40000) (hw : ∀ x, wipe ((wipe σ ws).set j (some x)) ws = wipe σ ws)
    (ht : ∀ (m : Nat) (x : V) H1, Gr H H1 → xs[m]? = some x → Ts c1 ((wipe σ ws).set j (some x)) H1 (f m)) (he : ∀ (m : Nat) (x : V) H1, Gr H H1 → xs[m]? = some x → f m = true → Vl t1 ((wipe σ ws).set j (some x)) H1 (val m)) :
    Ls (tLc (iList K t2) (gName j) c1 t1 ws) σ H (out xs.length f val) := fun H0 Q g q => h H0 _ g fun H1 g1 => ⟨a, rfl, ⟨xs, (g.trans g1).sl s⟩, fun p hp =>
  lc_list (xs := xs) (Cmp H1 f val p) ⟨hp, .new hp, upd_same⟩ (fun _ H' _ w => ((g.trans g1).trans w.2.1).sl s) (fun m x H' hm w => ⟨hw x, w.turn (by have := (List.getElem?_eq_some_iff.mp hm).1; omega) (ht m x H1 (g.trans g1) hm) fun hf => he m x H1 (g.trans g1) hm hf⟩)
    fun H' w => q p H' (g1.free w.1) (g1.trans w.2.1) w.2.2⟩
theorem l_cmpN {xs : List V} {j : Nat} {ws : List Nat} (f : Nat → Bool) (val : Nat → V) (h : Ls t2 σ H xs) (hz : xs.length ≤ 40000) (hw : ∀ x, wipe ((wipe σ ws).set j (some x)) ws = wipe σ ws)
    (ht : ∀ (m : Nat) (x : V) H1, Gr H H1 → xs[m]? = some x → Ts c1 ((wipe σ ws).set j (some x)) H1 (f m)) (he : ∀ (m : Nat) (x : V) H1, Gr H H1 → xs[m]? = some x → f m = true → Vl t1 ((wipe σ ws).set j (some x)) H1 (val m)) :
    Ls (tLc (iList K t2) (gName j) c1 t1 ws) σ H (out xs.length f val) := fun H0 Q g q => h H0 _ g fun a H1 ha g1 hx => ⟨a, rfl, ⟨xs, SqL.of hx⟩, fun p hp =>
  lc_list (xs := xs) (Cmp H1 f val p) ⟨hp, .new hp, upd_same⟩ (fun _ H' _ w => SqL.of (w.2.1.lst hx)) (fun m x H' hm w => ⟨hw x, w.turn (by have := (List.getElem?_eq_some_iff.mp hm).1; omega) (ht m x H1 (g.trans g1) hm) fun hf => he m x H1 (g.trans g1) hm hf⟩)
    fun H' w => q p H' (g1.free w.1) (g1.trans w.2.1) w.2.2⟩
theorem s_yes : Ts tYes σ H true := fun H1 _ _ q => q H1 (.refl _)
end

theorem slots {u : TS} {D : Ends} {σ τ : L2.St} {H : Hp} (e : σ = τ) (h : u D τ H) : u D σ H := e ▸ h

/-! ### automatic steps -/
local macro_rules | `(tactic| walk_at "n") => `(tactic| (try (refine slots (by simp only [List.set_cons_zero, List.set_cons_succ]; exact rfl) ?_)))
local macro_rules | `(tactic| walk_at "ev") => `(tactic| first
  | exact v_slot rfl
  | exact v_con
  | (refine' v_op ?a ?b ?c; (case a => walk_at "ev"); (case b => walk_at "ev"); (case c => walk_at "rv"))
  | (refine' v_call ?a ?b; (case a => walk_at "ea"); (case b => walk_at "sv"))
  | (refine' v_isbB ?a; (case a => walk_at "ev"))
  | (refine' v_and ?a (fun _ => ?b); (case a => walk_at "ev"); (case b => walk_at "ev"))
  | (refine' v_or ?a (fun _ => ?b); (case a => walk_at "ev"); (case b => walk_at "ev"))
  | (refine' v_not ?a; (case a => walk_at "ev"))
  | (refine' v_max ?a ?b; (case a => walk_at "ev"); (case b => walk_at "ev"))
  | (refine' v_min ?a ?b; (case a => walk_at "ev"); (case b => walk_at "ev"))
  | (refine' v_intB ?a; (case a => walk_at "ev"))
  | (refine' v_len ?a ?b; (case a => walk_at "ev"); (case b => assumption))
  | assumption)
local macro_rules | `(tactic| walk_at "ea") => `(tactic| first
  | exact g_nil
  | (refine' g_cons ?a ?b; (case a => walk_at "ev"); (case b => walk_at "ea")))
local macro_rules | `(tactic| walk_at "rv") => `(tactic| first
  | exact bi_0
  | (refine' bi_C ?a; (case a => walk_at "side"))
  | (refine' bi_eq ?a; (case a => rfl))
  | (refine' bi_ne ?a; (case a => rfl))
  | exact bi_isN
  | exact bi_notN
  | assumption)
local macro_rules | `(tactic| walk_at "side") => `(tactic| first
  | (show _ ≠ _; first | decide | omega)
  | (show _ ∧ _; first | exact ⟨by decide, by decide⟩ | exact ⟨by decide, by decide, by decide⟩ | omega))
local macro_rules | `(tactic| walk_at "et") => `(tactic| first
  | (refine' s_test ?a; (case a => walk_at "ev"))
  | (refine' s_B ?a; (case a => walk_at "ev"))
  | (refine' s_truB ?a; (case a => walk_at "ev"))
  | (refine' s_and ?a (fun _ => ?b); (case a => walk_at "et"); (case b => walk_at "et"))
  | (refine' s_or ?a (fun _ => ?b); (case a => walk_at "et"); (case b => walk_at "et"))
  | (refine' s_not ?a; (case a => walk_at "et"))
  | exact s_yes)
local macro_rules | `(tactic| walk_at "set") => `(tactic| (refine' B_set ?h ?k; (case h => walk_at "ev")))
local macro_rules | `(tactic| walk_at "setE") => `(tactic| (refine' S_set ?h ?k; (case h => walk_at "ev")))
local macro_rules | `(tactic| walk_at "when") => `(tactic| (refine' B_when ?h ?k1 ?k2; (case h => walk_at "et")))
local macro_rules | `(tactic| walk_at "whenE") => `(tactic| (refine' S_when ?h ?k1 ?k2; (case h => walk_at "et")))
local macro_rules | `(tactic| walk_at "whenInt") => `(tactic| (refine' B_whenInt ?h1 ?h2 ?h3 ?k; (case h1 => walk_at "et"); (case h2 => rfl); (case h3 => walk_at "ev")))
local macro_rules | `(tactic| walk_at "ret") => `(tactic| (refine' S_ret ?h ?k; (case h => walk_at "ev")))


/-! ### == and != of lists that hold the same things; of a dict and a tuple -/
namespace XE
open PySem PySem.Spec PyProof.Rows L2 PySem.SeqAt
def plainV : V → Bool
  | .non | .bl _ | .int _ | .str _ | .ref _ => true
  | _ => false
theorem rel_same {A : Around} {s : Shared} {x : V} {u v : Value} (h : plainV x = true) (r : RelV x u) (q : RelV x v) : EqAt A s u v true := by
  cases x with
  | non => cases r; cases q; exact EqAt.same _
  | bl b => cases r; cases q; exact EqAt.same _
  | int i =>
    obtain ⟨t, rfl⟩ := r
    obtain ⟨t', rfl⟩ := q
    have := EqAt.int_int (A := A) (s := s) i t i t'
    simpa using this
  | str i =>
    obtain ⟨t, rfl⟩ := r
    obtain ⟨t', rfl⟩ := q
    have := EqAt.str_str (A := A) (s := s) i t i t'
    simpa using this
  | ref a => cases r; cases q; exact EqAt.same _
  | _ => cases h
theorem vals_same {A : Around} {s : Shared} {xs : List V} {us vs : List Value} (h : xs.all plainV = true) (r : Vals xs us) (q : Vals xs vs) (j : Nat) (h1 : j < us.toArray.size) (h2 : j < vs.toArray.size) : EqAt A s us.toArray[j] vs.toArray[j] true := by
  have hx : j < xs.length := by
    have := r.length
    simp at h1
    omega
  obtain ⟨u, hu, ru⟩ := r.get (List.getElem?_eq_getElem hx)
  obtain ⟨v, hv, rv⟩ := q.get (List.getElem?_eq_getElem hx)
  have eu : us.toArray[j] = u := by
    have := (List.getElem?_eq_some_iff.mp hu).2
    simpa using this
  have ev : vs.toArray[j] = v := by
    have := (List.getElem?_eq_some_iff.mp hv).2
    simpa using this
  rw [eu, ev]
  exact rel_same (List.all_eq_true.mp h _ (List.getElem_mem hx)) ru rv
def rSame (K : PySem.W.Frag) (b : Bool) : R2 := fun x y H Q => ∃ a c xs, x = .ref a ∧ y = .ref c ∧ SqL K H a xs ∧ SqL K H c xs ∧ xs.all plainV = true ∧ Q (.bl b) H
def rNil (K : PySem.W.Frag) : R2 := fun x y H Q => ∃ a c xs, x = .ref a ∧ y = .ref c ∧ SqL K H a xs ∧ SqL K H c [] ∧ Q (.bl (!xs.isEmpty)) H
def rDT (K : PySem.W.Frag) : R2 := fun x y H Q => ∃ a c kvs xs, x = .ref a ∧ y = .ref c ∧ H a = some (.dK kvs) ∧ SqT K H c xs ∧ Q (.bl true) H
def rNeX (K : PySem.W.Frag) : R2 := fun x y H Q => rNeD K x y H Q ∨ rSame K false x y H Q ∨ rNil K x y H Q ∨ rDT K x y H Q
def rNilE (K : PySem.W.Frag) : R2 := fun x y H Q => ∃ a c xs, x = .ref a ∧ y = .ref c ∧ SqL K H a xs ∧ SqL K H c [] ∧ Q (.bl xs.isEmpty) H
def rEqX (K : PySem.W.Frag) : R2 := fun x y H Q => rEqD K x y H Q ∨ rSame K true x y H Q ∨ rNilE K x y H Q
section
variable {X : Cx}
theorem all_true (n : Nat) : (List.range n).all (fun _ => true) = true := by simp
theorem dict_ne_tuple {prog : Program} {w : World} {A : Around} {E : Value → Shared → Prop} {s : Shared} {a b : Addr} {name : Str} {Q : Value → Shared → Prop} (sl : Slot "dict" name "dict.__ne__") (ta : s.TypeIs (.ref a) "dict") (tb : s.TypeIs (.ref b) "tuple") (h : Q .notImplemented s) :
    wpAny (model prog w) A (call (.builtin "dict.__ne__") [.ref a, .ref b]) Q E s := by
  refine wpAny_call_entry sl ta PySem.F.entry_dict_ne ?_ (PySem.F.args_dict_ne_2 _ _)
  show wpAny _ _ (Builtin.Dict.dictSlotArgs "__ne__" ⟨[.ref a, .ref b], []⟩ >>= _) _ _ s
  refine wpAny_bind ?_
  unfold Builtin.Dict.dictSlotArgs
  refine wpAny_bind (wpAny_notOrdered_dict ta ?_)
  show wpAny _ _ (pure (Value.ref a, Value.ref b)) _ _ s
  refine wpAny_pure ?_
  refine wpAny_bind (wpAny_isInstance (T := "tuple") tb PySem.F.sub_tuple_dict ?_)
  simp only [Bool.not_false, if_true]
  refine wpAny_bind (wpAny_rule ?_)
  exact wpAny_pure ⟨_, rfl, h⟩
theorem tuple_ne_declines_dict (l b : Addr) (items : Array Value) (n : Nat) (dd : Option Addr) (sl : Array (Option Value)) (ob : Obj) (hob : ob.cls = .type "dict") :
    Meets (Builtin.«tuple.__ne__» ⟨[.ref l, .ref b], []⟩) (fun _ R s => s.heap.get? l = some { cls := .type "tuple", dict := dd, data := .seq items n, slots := sl } ∧ s.heap.get? b = some ob ∧ R (.ok (.ret .notImplemented)) s) := by
  obtain ⟨cls, od, data, slots⟩ := ob
  simp only at hob
  subst hob
  exact .of_wp fun prog w A R s h => by obtain ⟨hp, g, d, tk, os⟩ := s; obtain ⟨hl, hb, h⟩ := h; have f1 := F.sub_dict_tuple; wp_walk using AutoSeq1.wpAny_loadPart' hl, AutoSeq1.wpAny_loadPart' hb; exact ⟨_, rfl, h⟩
theorem ne_dict_tuple {A : Around} {s : Shared} {a b : Addr} {items : Array Value} (ta : s.TypeIs (.ref a) "dict") (hb : s.heap.IsTuple b items) (hu : A.units < cLine) : RcNeAt A s (.ref a) (.ref b) true := fun prog w E Q h => by
  obtain ⟨oa, ea, ca⟩ := ta
  obtain ⟨⟨cls, dd, data, sl⟩, ho, hc, n, hd⟩ := id hb
  simp only at hc hd
  subst hc hd
  have hne : a ≠ b := fun z => by
    rw [z, ho] at ea
    obtain rfl := Option.some.inj ea
    exact absurd (Value.type.inj ca) (by decide)
  exact rc_ne_decline_or (k := false) ⟨_, ea, ca⟩ ⟨_, ho, rfl⟩ (by decide) F.sub_tuple_dict F.slot_dict_ne F.slot_tuple_ne_refl
    (fun _ hq => dict_ne_tuple F.slot_dict_ne ⟨_, ea, ca⟩ ⟨_, ho, rfl⟩ hq)
    (fun _ hq => call_meets F.slot_tuple_ne_refl ⟨_, ho, rfl⟩ F.entry_tuple_ne (F.args_tuple_ne_2 _ _) (tuple_ne_declines_dict b a items n dd sl oa ca) ⟨ho, ea, hq⟩)
    (fun _ hq => wpAny_isSame_ref_other hne ea ho (by rw [ca]; simp) hq) (.inr hu) h
theorem op_neX (hu : X.A.units + 64 < cLine) : OpR X (compareOp .NotEq) (rNeX X.K) := by
  intro pins s σ H x y v u Q I rx ry h
  have hu1 : X.A.units < cLine := Nat.lt_of_le_of_lt (Nat.le_add_right _ _) hu
  rcases h with h | ⟨a, c, xs, rfl, rfl, ha, hc, hp, q⟩ | ⟨a, c, xs, rfl, rfl, ha, hc, q⟩ | ⟨a, c, kvs, xs, rfl, rfl, ha, hc, q⟩
  · exact op_neD hu pins s σ H x y v u Q I rx ry h
  · cases rx
    cases ry
    obtain ⟨its, rv, hl, _⟩ := I.list ha
    obtain ⟨its2, rv2, hl2, _⟩ := I.list hc
    have sz : its.toArray.size = its2.toArray.size := by
      have := rv.length
      have := rv2.length
      simp
      omega
    refine RcNeAt.lists (e := fun _ => true) hl.isList hl2.isList sz hu1 (fun j h1 h2 => vals_same hp rv rv2 j h1 h2) _ _ _ _ ?_
    rw [all_true]
    exact ⟨.bl _, H, I, rfl, q⟩
  · cases rx
    cases ry
    obtain ⟨its, rv, hl, _⟩ := I.list ha
    obtain ⟨its2, rv2, hl2, _⟩ := I.list hc
    cases rv2
    cases xs with
    | nil =>
      cases rv
      refine RcNeAt.lists (e := fun _ => true) hl.isList hl2.isList rfl hu1 (fun j h1 h2 => absurd h1 (by simp)) _ _ _ _ ?_
      rw [all_true]
      exact ⟨.bl _, H, I, rfl, q⟩
    | cons z zs =>
      refine RcNeAt.lists_lengths hl.isList hl2.isList ?_ hu1 _ _ _ _ ?_
      · have := rv.length
        rw [List.length_cons] at this
        simp
        intro e
        rw [e] at this
        simp at this
      · exact ⟨.bl _, H, I, rfl, q⟩
  · cases rx
    cases ry
    obtain ⟨_, _, vs, _, hd⟩ : ObjOk X.prog X.w H s.heap a (.dK kvs) := I.hok a _ ha
    obtain ⟨its, rv, hl, _⟩ := I.tuple hc
    exact ne_dict_tuple hd.typeIs hl hu1 _ _ _ _ ⟨.bl _, H, I, rfl, q⟩
theorem op_eqX (hu : X.A.units + 64 < cLine) : OpR X (compareOp .Eq) (rEqX X.K) := by
  intro pins s σ H x y v u Q I rx ry h
  have hu1 : X.A.units < cLine := Nat.lt_of_le_of_lt (Nat.le_add_right _ _) hu
  rcases h with h | ⟨a, c, xs, rfl, rfl, ha, hc, hp, q⟩ | ⟨a, c, xs, rfl, rfl, ha, hc, q⟩
  · exact op_eqD hu pins s σ H x y v u Q I rx ry h
  · cases rx
    cases ry
    obtain ⟨its, rv, hl, _⟩ := I.list ha
    obtain ⟨its2, rv2, hl2, _⟩ := I.list hc
    have sz : its.toArray.size = its2.toArray.size := by
      have := rv.length
      have := rv2.length
      simp
      omega
    refine RcAt.lists (e := fun _ => true) hl.isList hl2.isList sz hu1 (fun j h1 h2 => vals_same hp rv rv2 j h1 h2) _ _ _ _ ?_
    rw [all_true]
    exact ⟨.bl _, H, I, rfl, q⟩
  · cases rx
    cases ry
    obtain ⟨its, rv, hl, _⟩ := I.list ha
    obtain ⟨its2, rv2, hl2, _⟩ := I.list hc
    cases rv2
    cases xs with
    | nil =>
      cases rv
      refine RcAt.lists (e := fun _ => true) hl.isList hl2.isList rfl hu1 (fun j h1 h2 => absurd h1 (by simp)) _ _ _ _ ?_
      rw [all_true]
      exact ⟨.bl _, H, I, rfl, q⟩
    | cons z zs =>
      refine RcAt.lists_lengths hl.isList hl2.isList ?_ hu1 _ _ _ _ ?_
      · have := rv.length
        rw [List.length_cons] at this
        simp
        intro e
        rw [e] at this
        simp at this
      · exact ⟨.bl _, H, I, rfl, q⟩
end
/-! the rules, told by values -/
section
variable {K : PySem.W.Frag} {H : Hp} {a c : Addr} {xs : List V}
theorem bi_neX {x y z : V} (h : Bi (rNeD K) x y H z) : Bi (rNeX K) x y H z := fun H1 Q g q => .inl (h H1 Q g q)
theorem bi_eqX {x y z : V} (h : Bi (rEqD K) x y H z) : Bi (rEqX K) x y H z := fun H1 Q g q => .inl (h H1 Q g q)
theorem bi_neS (h1 : SqL K H a xs) (h2 : SqL K H c xs) (p : xs.all plainV = true) : Bi (rNeX K) (.ref a) (.ref c) H (.bl false) := fun H1 Q g q => .inr (.inl ⟨a, c, xs, rfl, rfl, g.sl h1, g.sl h2, p, q H1 (.refl _)⟩)
theorem bi_eqS (h1 : SqL K H a xs) (h2 : SqL K H c xs) (p : xs.all plainV = true) : Bi (rEqX K) (.ref a) (.ref c) H (.bl true) := fun H1 Q g q => .inr (.inl ⟨a, c, xs, rfl, rfl, g.sl h1, g.sl h2, p, q H1 (.refl _)⟩)
theorem bi_neNil (h1 : SqL K H a xs) (h2 : SqL K H c []) : Bi (rNeX K) (.ref a) (.ref c) H (.bl (!xs.isEmpty)) := fun H1 Q g q => .inr (.inr (.inl ⟨a, c, xs, rfl, rfl, g.sl h1, g.sl h2, q H1 (.refl _)⟩))
theorem bi_eqNil (h1 : SqL K H a xs) (h2 : SqL K H c []) : Bi (rEqX K) (.ref a) (.ref c) H (.bl xs.isEmpty) := fun H1 Q g q => .inr (.inr ⟨a, c, xs, rfl, rfl, g.sl h1, g.sl h2, q H1 (.refl _)⟩)
theorem bi_neDT {kvs : List (Key × V)} (h1 : H a = some (.dK kvs)) (h2 : SqT K H c xs) : Bi (rNeX K) (.ref a) (.ref c) H (.bl true) := fun H1 Q g q => .inr (.inr (.inr ⟨a, c, kvs, xs, rfl, rfl, g.at_ h1 (fun _ e => by cases e), g.st h2, q H1 (.refl _)⟩))
end
end XE

/-- a def whose code object is known by its place -/
theorem fun_okC {P : Program} {w : World} {K : PySem.W.Frag} {mg : Str → Option Value} {base : Heap} {x z : Str} {st : Stmt} {f c : Addr} {fd : FuncData} {N ps : List Str} {k : Nat} {sp : Sp} (F : Fun K x z st f fd) (hc : fd.code = .ref c) (S : FnScope N ps (defScope st)) (len : ∀ vs H Q E, sp vs H Q E → vs.length = ps.length)
    (body : ∀ (A : Around) (outer : List Env) (s : Shared) (H : Hp) (vs : List V) (Q : VK) (E : XK), Room k (A.deeper (PyProof.Rows.envOfC z (defScope st) s.heap.objs.size f (.ref c))) → sp vs H Q E →
      ∃ t, PSs (cxOf CX0 P w K mg base N z (defScope st) f (.ref c) A outer s H E).nox (defBody st) t ∧ t { nx := fun _ H' => Q .non H', rt := Q } (start N vs) H) : FnOk P w K mg base CX0 (k + 1) f fd ps sp := by
  obtain ⟨oc, od, kV, doc, pm, an, cv, ct, osl, rfl, lk, hcd⟩ := F.ex
  have e : cv = .ref c := hc
  subst e
  refine fn_of lk hcd S len fun A outer s H vs Q E hr hsp => ?_
  obtain ⟨t, h, q⟩ := body A outer s H vs Q E hr hsp
  exact ⟨t, h.nox, q⟩

/-! ### comprehensions over a text; data; what is no text -/
section
variable {K : PySem.W.Frag} {σ : L2.St} {H H' : Hp} {t1 t2 t3 : TE} {c1 c2 : TT} {x y z v : V}
theorem l_cmpS {w : Str} {j : Nat} {ws : List Nat} (f : Nat → Bool) (val : Nat → V) (h : Vl t2 σ H (.str w)) (hz : w.cps.size ≤ 40000) (hw : ∀ x, wipe ((wipe σ ws).set j (some x)) ws = wipe σ ws)
    (ht : ∀ (m k : Nat) H1, Gr H H1 → w.cps[m]? = some k → Ts c1 ((wipe σ ws).set j (some (.str ⟨#[k]⟩))) H1 (f m)) (he : ∀ (m k : Nat) H1, Gr H H1 → w.cps[m]? = some k → f m = true → Vl t1 ((wipe σ ws).set j (some (.str ⟨#[k]⟩))) H1 (val m)) :
    Ls (tLc (iStr t2) (gName j) c1 t1 ws) σ H (out w.cps.size f val) := fun H0 Q g q => h H0 _ g fun H1 g1 => ⟨w, rfl, fun p hp =>
  lc_it walk_str (Cmp H1 f val p) ⟨hp, .new hp, upd_same⟩ (fun _ _ _ _ => trivial) (fun m x Ha Hb hm w0 ⟨e, k, hk, ex⟩ => by
    subst e
    subst ex
    exact ⟨hw _, w0.turn (by omega) (ht m k H1 (g.trans g1) hk) fun hf => he m k H1 (g.trans g1) hk hf⟩) fun H' w0 => q p H' (g1.free w0.1) (g1.trans w0.2.1) w0.2.2⟩
theorem dps_str : ∀ l : List Str, DpAll K H (l.map V.str) (l.map PyData.str)
  | [] => .nil
  | a :: l => .cons (.str a) (dps_str l)
/-- plain signs alone -/
def Asc (z : Str) : Prop := ∀ k ∈ z.cps.toList, k < 128
theorem Asc.ok {z : Str} (h : Asc z) : PyData.strOk z = true := by
  unfold PyData.strOk
  rw [← Array.all_toList, List.all_eq_true]
  intro k hk
  have := h k hk
  exact decide_eq_true (by omega)
theorem Asc.cat {a b : Str} (ha : Asc a) (hb : Asc b) : Asc (a ++ b) := by
  intro k hk
  have e : (a ++ b).cps.toList = a.cps.toList ++ b.cps.toList := Array.toList_append
  rw [e] at hk
  rcases List.mem_append.mp hk with h | h
  · exact ha k h
  · exact hb k h
theorem Asc.cut {a : Str} (ha : Asc a) (lo hi : Option Int) : Asc (cutS a lo hi) := by
  intro k hk
  exact ha k (List.mem_of_mem_drop (List.mem_of_mem_take hk))
theorem Asc.one {k : Nat} (h : k < 128) : Asc ⟨#[k]⟩ := by
  intro j hj
  rw [List.mem_singleton.mp hj]
  exact h
theorem cut_len (a : Str) (lo hi : Option Int) : (cutS a lo hi).length ≤ a.length := by
  show ((_ : List Nat).toArray).size ≤ a.cps.size
  rw [List.size_toArray]
  refine Nat.le_trans (List.length_take_le' _ _) ?_
  rw [List.length_drop, Array.length_toList]
  omega
theorem cat_len (a b : Str) : (a ++ b).length = a.length + b.length := Array.size_append
theorem canLay_strs : ∀ l : List Str, (∀ a ∈ l, Asc a) → PyData.canLayAll0 (l.map PyData.str) = true
  | [], _ => by simp [PyData.canLayAll0]
  | a :: l, h => by
    have t := canLay_strs l fun b hb => h b (List.mem_cons_of_mem _ hb)
    have t2 := (h a List.mem_cons_self).ok
    simp [PyData.canLayAll0, PyData.canLay0, t, t2]
theorem depth_strs : ∀ l : List Str, PyData.depthAll (l.map PyData.str) = 0
  | [] => by simp [PyData.depthAll]
  | a :: l => by
    have := depth_strs l
    simp [PyData.depthAll, PyData.depth, this]
theorem shaped_strs (l : List Str) (h : ∀ a ∈ l, Asc a) : SeqAt.shaped (.list (l.map PyData.str)) = true := by
  unfold SeqAt.shaped
  simp [PyData.canLay0, PyData.depth, canLay_strs l h, depth_strs l]
theorem eqv_nil (ds : List PyData) : PyData.eqv (.list ds) (.list []) = ds.isEmpty := by
  cases ds <;> simp [PyData.eqv, PyData.eqvAll]

theorem Gr.tyOf {t : Value} (g : Gr H H') (h : TyOf K H v t) : TyOf K H' v t := by
  cases h with
  | non => exact .non
  | bl x => exact .bl x
  | int i => exact .int i
  | str x => exact .str x
  | flt x => exact .flt x
  | lst e => exact .lst (g.lst e)
  | frz e => exact .frz (g.at_ e fun _ z => by cases z)
  | tup e => exact .tup (g.tup e)
  | dK e => exact .dK (g.at_ e fun _ z => by cases z)
  | dT e => exact .dT (g.at_ e fun _ z => by cases z)
  | ins e a b c d f => exact .ins (g.ins e) a b c d f
theorem Gr.tyX {t : Value} (g : Gr H H') (h : TyX K H v t) : TyX K H' v t := by
  cases h with
  | base h => exact .base (g.tyOf h)
  | byt b => exact .byt b
  | set e => exact .set (g.at_ e fun _ z => by cases z)
  | kList e c => exact .kList e c
  | kTuple e c => exact .kTuple e c
  | kDict e c => exact .kDict e c
  | fTuple e => exact .fTuple (g.at_ e fun _ z => by cases z)
  | fDict e => exact .fDict (g.at_ e fun _ z => by cases z)
/-- a thing of a known kind that is no text -/
def NoStr (K : PySem.W.Frag) (v : V) (H : Hp) : Prop := ∃ n : String, TyX K H v (.type n) ∧ PySem.W.kitOne K (.type n) (.type "str") = some false
theorem NoStr.mono (g : Gr H H') (h : NoStr K v H) : NoStr K v H' := let ⟨n, a, b⟩ := h; ⟨n, g.tyX a, b⟩
theorem NoStr.non : NoStr K .non H := ⟨_, .base .non, kit_ty (by decide +kernel)⟩
theorem NoStr.bl {b : Bool} : NoStr K (.bl b) H := ⟨_, .base (.bl b), kit_ty (by decide +kernel)⟩
theorem NoStr.int {i : Int} : NoStr K (.int i) H := ⟨_, .base (.int i), kit_ty (by decide +kernel)⟩
theorem NoStr.lst {a : Addr} {xs : List V} (h : H a = some (.lst xs)) : NoStr K (.ref a) H := ⟨_, .base (.lst h), kit_ty (by decide +kernel)⟩
theorem NoStr.tup {a : Addr} {xs : List V} (h : H a = some (.tup xs)) : NoStr K (.ref a) H := ⟨_, .base (.tup h), kit_ty (by decide +kernel)⟩
theorem NoStr.dK {a : Addr} {xs : List (Key × V)} (h : H a = some (.dK xs)) : NoStr K (.ref a) H := ⟨_, .base (.dK h), kit_ty (by decide +kernel)⟩
theorem v_nostr (h : Vl t1 σ H v) (n : NoStr K v H) : Vl (tCB (rIsi K) (tCons t1 (tCons (tC (.ty "str")) tNil))) σ H (.bl false) := by
  obtain ⟨k, a, b⟩ := n
  exact v_isi h v_con (.ty _) (fun _ g => g.tyX a) b
/-- displays whose items are no texts -/
def NoStrs (K : PySem.W.Frag) (n : Nat) (vs : List V) (H : Hp) : Prop := vs.length = n ∧ ∀ v ∈ vs, NoStr K v H
theorem a_nil : Ar tNil σ H (NoStrs K 0) := fun H1 _ _ q => q [] H1 (.refl _) ⟨rfl, fun _ h => absurd h List.not_mem_nil⟩
theorem a_cons {a1 : TA} {n : Nat} (h : Vr t1 σ H (NoStr K)) (k : Ar a1 σ H (NoStrs K n)) : Ar (tCons t1 a1) σ H (NoStrs K (n + 1)) := fun H1 Q g q => h H1 _ g fun v H2 g2 hv => k H2 _ (g.trans g2) fun vs H3 g3 ⟨hl, ha⟩ => q (v :: vs) H3 (g2.trans g3) ⟨by rw [List.length_cons, hl], fun u hu => by
  rcases List.mem_cons.mp hu with e | e
  · rw [e]
    exact hv.mono g3
  · exact ha u e⟩
theorem vr_v {n : V} (h : Vl t1 σ H n) (k : ∀ H1, NoStr K n H1) : Vr t1 σ H (NoStr K) := fun H1 Q g q => h H1 _ g fun H2 g2 => q n H2 g2 (k H2)
theorem vr_l {xs : List V} (h : Ls t1 σ H xs) : Vr t1 σ H (NoStr K) := fun H1 Q g q => h H1 _ g fun p H2 _ g2 e => q _ H2 g2 (.lst e)
theorem vr_u {xs : List V} (h : Tu t1 σ H xs) : Vr t1 σ H (NoStr K) := fun H1 Q g q => h H1 _ g fun p H2 _ g2 e => q _ H2 g2 (.tup e)
theorem r_lst {a1 : TA} {R : List V → Hp → Prop} (h : Ar a1 σ H R) (n : ∀ vs H1, R vs H1 → vs.length ≤ 100000) (mono : ∀ {vs H1 H2}, Gr H1 H2 → R vs H1 → R vs H2) : Vr (tLst a1) σ H (fun v H1 => ∃ p vs, v = .ref p ∧ H1 p = some (.lst vs) ∧ R vs H1) := fun H1 Q g q => h H1 _ g fun vs H2 g2 hv =>
  ⟨small (n vs H2 hv), fun p hp => q _ _ (g2.trans (.new hp)) ⟨p, vs, rfl, upd_same, mono (.new hp) hv⟩⟩
theorem r_ix {i : Int} {R S : V → Hp → Prop} (h : Vr t1 σ H R) (k : ∀ H1, Gr H H1 → Vl t2 σ H1 (.int i)) (o : ∀ v H1, Gr H H1 → R v H1 → ∃ p xs u, v = .ref p ∧ H1 p = some (.lst xs) ∧ atI xs i = some u ∧ S u H1) (mono : ∀ {u H1 H2}, Gr H1 H2 → S u H1 → S u H2) : Vr (tOp (rIxL K) t1 t2) σ H S := fun H1 Q g q =>
  h H1 _ g fun v H2 g2 hv => by
    obtain ⟨p, xs, u, e, hp, hu, hs⟩ := o v H2 (g.trans g2) hv
    exact k H2 (g.trans g2) H2 _ (.refl _) fun H3 g3 => ⟨p, xs, i, u, e, rfl, SqL.of (g3.lst hp), hu, q u H3 (g2.trans g3) (mono g3 hs)⟩
end
section
variable {σ : L2.St} {H : Hp} {t1 : TE}
theorem v_slS {w : Str} {tl th : TO} {lo hi : Option Int} (h : Vl t1 σ H (.str w)) (h1 : Pt tl σ H lo) (h2 : Pt th σ H hi) (s : w.length ≤ 100000) : Vl (tSl (fun x lo hi H Q => ∃ z, x = .str z ∧ z.length ≤ sizeLine ∧ Q (.str (cutS z lo hi)) H) t1 tl th) σ H (.str (cutS w lo hi)) := fun H1 _ g q =>
  h H1 _ g fun H2 g2 => h1 H2 _ (g.trans g2) fun H3 g3 => h2 H3 _ ((g.trans g2).trans g3) fun H4 g4 => ⟨w, rfl, small s, q H4 ((g2.trans g3).trans g4)⟩
end
theorem fmod_in (c : Int) {m : Int} (h : 0 < m) : 0 ≤ c.fmod m ∧ c.fmod m < m := ⟨Int.fmod_nonneg_of_pos c h, Int.fmod_lt_of_pos c h⟩
theorem atI_in {α : Type} (d : α) {l : List α} {i : Int} (h0 : 0 ≤ i) (h : i < l.length) : atI l i = some (l.getD i.toNat d) := by
  have hn : i.toNat < l.length := by omega
  have e := atI_nat (xs := l) (j := i.toNat) (v := l.getD i.toNat d) (by rw [List.getD_eq_getElem?_getD, List.getElem?_eq_getElem hn]; rfl)
  rw [Int.toNat_of_nonneg h0] at e
  exact e
/-! ### names -/
def signs : Str := "abcdefghijklmnopqrstuvwxyz0123456789"
def nameB (z : Str) : Bool := (decide (1 ≤ (z.length : Int)) && decide ((z.length : Int) ≤ 12)) && z.cps.toList.all fun k => decide (k ∈ signs.cps.toList)
def wishB (z : Str) : Bool := inV (.str z) [V.str (Str.ofString "read"), V.str (Str.ofString "write")]
theorem wish_is (z : Str) : wishB z = (decide (V.str z = V.str (Str.ofString "read")) || decide (V.str z = V.str (Str.ofString "write"))) := by
  unfold wishB inV
  rw [List.any_cons, List.any_cons, List.any_nil, Bool.or_false]
  have e : ∀ a b : Str, eqV (.str a) (.str b) = decide (V.str b = V.str a) := fun a b => by
    rw [dec_str]
    exact Bool.beq_comm ..
  rw [e, e]

theorem bi_notInS {k : Nat} {w : Str} {H : Hp} : Bi rNotInS (.str ⟨#[k]⟩) (.str w) H (.bl (!decide (k ∈ w.cps.toList))) := fun H1 _ _ q => ⟨k, w, rfl, rfl, q H1 (.refl _)⟩
theorem bi_inS {k : Nat} {w : Str} {H : Hp} : Bi rInS (.str ⟨#[k]⟩) (.str w) H (.bl (decide (k ∈ w.cps.toList))) := fun H1 _ _ q => ⟨k, w, rfl, rfl, q H1 (.refl _)⟩
theorem none_out (l : List Nat) (p : Nat → Bool) : ((List.range l.length).filter fun m => !p (l.getD m 0)).isEmpty = l.all p := by
  rw [Bool.eq_iff_iff, List.isEmpty_iff, List.filter_eq_nil_iff, List.all_eq_true]
  constructor
  · intro h k hk
    obtain ⟨m, hm, e⟩ := List.getElem_of_mem hk
    have := h m (List.mem_range.mpr hm)
    rw [List.getD_eq_getElem?_getD, List.getElem?_eq_getElem hm, e] at this
    simpa using this
  · intro h m hm
    have hm' := List.mem_range.mp hm
    rw [List.getD_eq_getElem?_getD, List.getElem?_eq_getElem hm']
    have := h _ (List.getElem_mem hm')
    simpa using this
theorem cps_getD {w : Str} {m k : Nat} (h : w.cps[m]? = some k) : w.cps.toList.getD m 0 = k := by
  rw [List.getD_eq_getElem?_getD, Array.getElem?_toList, h]
  rfl

/-! ### more steps: an enumerated list, an item's field, a method that gives nothing -/
section
variable {K : PySem.W.Frag} {σ : L2.St} {H H' : Hp} {t1 t2 t3 : TE} {c1 c2 : TT} {x y z v : V} {D : Ends} {u1 u2 : TS} {g1 : TG}
theorem B_forE {a : Addr} {xs : List V} (h : Vl t1 σ H (.ref a)) (s : SqL K H a xs) (Pv : Nat → L2.St → Hp → Prop) (h0 : ∀ H1, Gr H H1 → Pv 0 σ H1) (hl : ∀ m σ' H', m ≤ xs.length → Pv m σ' H' → SqL K H' a xs)
    (hs : ∀ m x T σ' H', xs[m]? = some x → Pv m σ' H' → H' T = none → g1 (.ref T) σ' (upd H' T (.tup [.int (m : Nat), x])) fun σ2 H2 => u1 { D with nx := Pv (m + 1), ct := Pv (m + 1), bk := u2 D } σ2 H2) (hd : ∀ σ' H', Pv xs.length σ' H' → u2 D σ' H') : tSeq (tFor (iEnum K (tCons t1 tNil)) g1 u1) u2 D σ H :=
  h H _ (.refl _) fun H1 g => ⟨a, xs, rfl, g.sl s, for_it (D := { D with nx := u2 D }) walk_enum Pv (h0 H1 g) hl (fun m v σ' Ha Hb hm p ⟨T, i, w, ev, hT, eH, ei, ew⟩ => by
    subst ev
    subst eH
    cases ei
    exact hs m w T σ' Ha ew p hT) hd⟩
theorem v_fld {l p : Addr} {vs ts : List V} {m : Nat} {i : Int} (hl : SqL K H l vs) (hv : vs[m]? = some (.ref p)) (hp : H p = some (.tup ts)) (hf : atI ts i = some v) (a : Vl t1 σ H (.ref l)) (d : Vl t2 σ H (.int (m : Nat))) :
    Vl (tOp (rIxT K) (tOp (rIxL K) t1 t2) (tC (.int i))) σ H v := v_op (v_op a d (bi_ixL hl (atI_nat hv))) v_con (bi_ixT (SqT.of hp) hf)
theorem Tu.toR {xs : List V} (h : Tu t1 σ H xs) : Vr t1 σ H (fun u H2 => ∃ p, u = .ref p ∧ H2 p = some (.tup xs)) := fun H1 Q g q => h H1 Q g fun p H2 _ g2 e => q _ H2 g2 ⟨p, rfl, e⟩
/-- xs.insert(0, e), the item a new tuple -/
abbrev rIns0 : V → List V → Hp → VK → Prop := fun x vs H Q => ∃ (l : Addr) (xs : List V) (i : Int) (y : V), x = .ref l ∧ vs = [.int i, y] ∧ H l = some (.lst xs) ∧ xs.length < sizeLine ∧ 0 ≤ i ∧ i < 2 ^ 63 ∧ Q .non (upd H l (.lst (xs.take i.toNat ++ [y] ++ xs.drop i.toNat)))
theorem B_ins0U {l : Addr} {xs ts : List V} (hl : H l = some (.lst xs)) (a : Vl t1 σ H (.ref l)) (h : Tu t2 σ H ts) (n : xs.length < 100000) (k : ∀ p H1, H p = none → Gr H H1 → H1 p = some (.tup ts) → u1 D σ (upd H1 l (.lst (.ref p :: xs)))) :
    tSeq (tDrop (tBM K "list" rIns0 t1 (tCons (tC (.int 0)) (tCons t2 tNil)))) u1 D σ H := a H _ (.refl _) fun H1 g =>
  ⟨.inl ⟨rfl, xs, SqL.of (g.lst hl)⟩, h H1 _ g fun p H2 hp g2 e => ⟨l, xs, 0, .ref p, rfl, rfl, g2.lst (g.lst hl), small' n, by decide, by decide, k p H2 (g.free hp) (g.trans g2) e⟩⟩
theorem B_pop0 {l : Addr} {xs : List V} (hl : H l = some (.lst (y :: xs))) (a : Vl t1 σ H (.ref l)) (k : ∀ H1, Gr H H1 → u1 D σ (upd H1 l (.lst xs))) : tSeq (tDrop (tBM K "list" rPopAt t1 (tCons (tC (.int 0)) tNil))) u1 D σ H := a H _ (.refl _) fun H1 g =>
  ⟨.inl ⟨rfl, _, SqL.of (g.lst hl)⟩, l, y :: xs, 0, 0, y, rfl, rfl, g.lst hl, by decide, by decide, by
    unfold seqIndex?
    simp, rfl, k H1 g⟩
end
/-- sep.join(a list or a tuple of texts) -/
abbrev rJoin (K : PySem.W.Frag) : V → List V → Hp → VK → Prop := fun x xs H Q => ∃ a p, ∃ ys : List Str, x = .str a ∧ xs = [.ref p] ∧ (SqL K H p (ys.map V.str) ∨ SqT K H p (ys.map V.str)) ∧ (ys.map (·.length)).sum + ys.length * a.length ≤ 16777216 ∧ Q (.str (Txt.join a ys)) H
theorem out_filter {α : Type} (l : List α) (p : α → Bool) (g : α → V) (f : Nat → Bool) (val : Nat → V) (hf : ∀ m x, l[m]? = some x → f m = p x ∧ val m = g x) : out l.length f val = (l.filter p).map g := by
  have key : ∀ n, n ≤ l.length → out n f val = ((l.take n).filter p).map g := by
    intro n
    induction n with
    | zero => exact fun _ => rfl
    | succ n ih =>
      intro hn
      have h := hf n _ (List.getElem?_eq_getElem (show n < l.length by omega))
      rw [out_succ, ih (by omega), List.take_succ, List.getElem?_eq_getElem (show n < l.length by omega), Option.toList_some, List.filter_append, List.map_append, h.1, h.2, List.filter_cons]
      cases p l[n] <;> rfl
  have := key l.length (Nat.le_refl _)
  rw [List.take_length] at this
  exact this
theorem not_tup {H : Hp} {a : Addr} {kvs : List (Key × V)} (h : H a = some (.dK kvs)) : ∀ ts, H a ≠ some (.tup ts) := fun ts z => by
  rw [h] at z
  cases z
/-- tuples kept by a comprehension -/

abbrev rd : Str := "read"
abbrev wr : Str := "write"
/-! ### the law's readers of the script -/
def cellAt (ns : List Int) (k : Nat) : Int := ns.getD k 0
def spCell (K : PySem.W.Frag) : Sp := fun vs H Q _ => ∃ (a : Addr) (ns : List Int) (k : Nat), vs = [.ref a, .int (k : Int)] ∧ SqL K H a (ns.map V.int) ∧ RV (.int (cellAt ns k)) H Q
theorem sv_cell {K : PySem.W.Frag} {H : Hp} {a : Addr} {ns : List Int} {i : Int} (k : Nat) (e : i = (k : Int)) (h : SqL K H a (ns.map V.int)) : SpV (spCell K) [.ref a, .int i] H (.int (cellAt ns k)) := fun H1 Q E g q => ⟨a, ns, k, by rw [e], g.sl h, q⟩
def numBy (c l : Int) : Int :=
  if c.fmod 8 < 3 then l + c.fmod 8 else
  if c.fmod 8 = 3 then l + (c.fdiv 8).fmod 9 else
  if c.fmod 8 = 4 then 10 ^ 9 else
  if c.fmod 8 = 5 then l + (c.fdiv 8).fmod (10 ^ 9 + 1 - l) else
  l + (c.fdiv 8).fmod (if c.fmod 8 = 6 then 60 else 300)
theorem numBy_in (c l : Int) (hl : l = 0 ∨ l = 1) : l ≤ numBy c l ∧ numBy c l ≤ 10 ^ 9 := by
  have h1 := fmod_in c (m := 8) (by decide)
  have h2 := fmod_in (c.fdiv 8) (m := 9) (by decide)
  have h3 := fmod_in (c.fdiv 8) (m := 10 ^ 9 + 1 - l) (by omega)
  have h4 := fmod_in (c.fdiv 8) (m := (if c.fmod 8 = 6 then 60 else 300)) (by split <;> decide)
  unfold numBy
  split
  · omega
  split
  · omega
  split
  · omega
  split
  · omega
  have : (if c.fmod 8 = 6 then (60:Int) else 300) ≤ 300 := by split <;> decide
  omega
def spNum : Sp := fun vs H Q _ => ∃ (c l : Int), vs = [.int c, .int l] ∧ (l = 0 ∨ l = 1) ∧ RV (.int (numBy c l)) H Q
theorem sv_num {H : Hp} {c l : Int} (h : l = 0 ∨ l = 1) : SpV spNum [.int c, .int l] H (.int (numBy c l)) := fun H1 Q E g q => ⟨c, l, rfl, h, q⟩
/-- a new list of so many plain texts -/
def Names (n : Nat) (v : V) (H : Hp) : Prop := ∃ (p : Addr) (ss : List Str), v = .ref p ∧ H p = some (.lst (ss.map V.str)) ∧ ss.length = n ∧ ∀ s ∈ ss, nameB s = true
theorem Names.mono {n : Nat} {v : V} {H H' : Hp} (g : Gr H H') (h : Names n v H) : Names n v H' := let ⟨p, ss, a, b, c⟩ := h; ⟨p, ss, a, g.lst b, c⟩
/-- the same; if they are few, no two are alike -/
def NamesD (n : Nat) (v : V) (H : Hp) : Prop := ∃ (p : Addr) (ss : List Str), v = .ref p ∧ H p = some (.lst (ss.map V.str)) ∧ ss.length = n ∧ (∀ s ∈ ss, nameB s = true) ∧ (n ≤ 4 → ss.Nodup)
theorem NamesD.names {n : Nat} {v : V} {H : Hp} (h : NamesD n v H) : Names n v H := let ⟨p, ss, a, b, c, d, _⟩ := h; ⟨p, ss, a, b, c, d⟩
def spPeople : Sp := fun vs H Q _ => ∃ (c : Int) (n : Nat), vs = [.int c, .int (n : Int)] ∧ n ≤ 400 ∧ RR_ (NamesD n) H Q
theorem sr_people {H : Hp} {c i : Int} (n : Nat) (e : i = (n : Int)) (h : n ≤ 400) : SpR spPeople [.int c, .int i] H (Names n) := fun H1 Q E g q => ⟨c, n, by rw [e], h, fun v H2 g2 k => q v H2 g2 k.names⟩
theorem sr_peopleD {H : Hp} {c i : Int} (n : Nat) (e : i = (n : Int)) (h : n ≤ 400) : SpR spPeople [.int c, .int i] H (NamesD n) := fun H1 Q E g q => ⟨c, n, by rw [e], h, q⟩
theorem names_out {n : Nat} {s : Nat → Str} (h : ∀ m, m < n → nameB (s m) = true) (d : n ≤ 4 → ∀ i j, i < n → j < n → s i = s j → i = j) {p : Addr} {H : Hp} (hp : H p = some (.lst (out n (fun _ => true) fun m => V.str (s m)))) : NamesD n (.ref p) H := by
  refine ⟨p, (List.range n).map s, rfl, ?_, by rw [List.length_map, List.length_range], ?_, fun hn => ?_⟩
  · rw [hp]
    unfold out
    rw [List.map_map, List.filter_eq_self.mpr (fun _ _ => rfl)]
    rfl
  · intro z hz
    obtain ⟨m, hm, rfl⟩ := List.mem_map.mp hz
    exact h m (List.mem_range.mp hm)
  · exact List.pairwise_map.mpr (List.Pairwise.imp_of_mem (fun hi hj ne e => ne (d hn _ _ (List.mem_range.mp hi) (List.mem_range.mp hj) e)) List.nodup_range)
theorem str_cancel {a b c d : Str} (h : a ++ b ++ c = a ++ d ++ c) : b = d := by
  have t : ∀ u v : Str, (u ++ v).cps.toList = u.cps.toList ++ v.cps.toList := fun u v => Array.toList_append
  have h1 : (a ++ b ++ c).cps.toList = (a ++ d ++ c).cps.toList := congrArg (fun u : Str => u.cps.toList) h
  rw [t, t, t, t] at h1
  have h2 := List.append_cancel_left (List.append_cancel_right h1)
  cases b
  cases d
  exact congrArg Str.mk (Array.toList_inj.mp h2)
theorem sign_inj {i j : Nat} (hi : i < 36) (hj : j < 36) (h : signs.cps.toList.getD i 0 = signs.cps.toList.getD j 0) : i = j := by
  have key : ∀ i, i < 36 → ∀ j, j < 36 → signs.cps.toList.getD i 0 = signs.cps.toList.getD j 0 → i = j := by decide +kernel
  exact key i hi j hj h
/-- the signs of names alone -/
def Sg (z : Str) : Prop := ∀ k ∈ z.cps.toList, k ∈ signs.cps.toList
theorem sg_asc : ∀ k ∈ signs.cps.toList, k < 128 := by decide +kernel
theorem Sg.asc {z : Str} (h : Sg z) : Asc z := fun k hk => sg_asc k (h k hk)
theorem Sg.cat {a b : Str} (ha : Sg a) (hb : Sg b) : Sg (a ++ b) := by
  intro k hk
  have e : (a ++ b).cps.toList = a.cps.toList ++ b.cps.toList := Array.toList_append
  rw [e] at hk
  exact (List.mem_append.mp hk).elim (ha k) (hb k)
theorem Sg.cut {a : Str} (ha : Sg a) (lo hi : Option Int) : Sg (cutS a lo hi) := fun k hk => ha k (List.mem_of_mem_drop (List.mem_of_mem_take hk))
theorem Sg.one {k : Nat} (h : k ∈ signs.cps.toList) : Sg ⟨#[k]⟩ := fun j hj => by
  rw [List.mem_singleton.mp hj]
  exact h
theorem nameB_of {z : Str} (h1 : 1 ≤ z.length) (h2 : z.length ≤ 12) (h3 : Sg z) : nameB z = true := by
  unfold nameB
  rw [decide_eq_true (show (1 : Int) ≤ (z.length : Int) by omega), decide_eq_true (show (z.length : Int) ≤ 12 by omega), Bool.and_true, Bool.true_and, List.all_eq_true]
  exact fun k hk => decide_eq_true (h3 k hk)
theorem nameB_is {z : Str} (h : nameB z = true) : 1 ≤ z.length ∧ z.length ≤ 12 ∧ Sg z := by
  unfold nameB at h
  simp only [Bool.and_eq_true, decide_eq_true_eq, List.all_eq_true] at h
  exact ⟨by omega, by omega, h.2⟩
theorem cut_to (z : Str) (k : Nat) : (cutS z none (some (k : Int))).length = min k z.length := by
  show ((_ : List Nat).toArray).size = _
  rw [List.size_toArray, HT.sIx_nat, HT.sIx_none, List.length_take, List.length_drop, Array.length_toList]
  show min (min k z.length - 0) (z.length - 0) = _
  omega
theorem cut_from (z : Str) (k : Nat) : (cutS z (some (k : Int)) none).length = z.length - min k z.length := by
  show ((_ : List Nat).toArray).size = _
  rw [List.size_toArray, HT.sIx_nat, HT.sIx_none, List.length_take, List.length_drop, Array.length_toList]
  show min (z.length - min k z.length) (z.length - min k z.length) = _
  omega
theorem sign_at (n : Nat) (h : n < 36) : signs.cps.toList.getD n 0 ∈ signs.cps.toList := by
  have l : signs.cps.toList.length = 36 := by decide +kernel
  rw [List.getD_eq_getElem?_getD, List.getElem?_eq_getElem (by omega)]
  exact List.getElem_mem _
theorem sign_mod (c : Int) : signs.cps.toList.getD (c.fmod 36).toNat 0 ∈ signs.cps.toList := sign_at _ (by have := fmod_in c (m := 36) (by decide); omega)
theorem num_text : ∀ k : Nat, k < 400 → 1 ≤ (toString (k : Int) : Str).length ∧ (toString (k : Int) : Str).length ≤ (if k < 100 then 2 else 3) ∧ Sg (toString (k : Int)) := by
  unfold Sg
  decide +kernel
theorem num_len (k : Nat) (h : k < 400) : (toString (k : Int) : Str).length ≤ 3 := by
  have := (num_text k h).2.1
  split at this <;> omega
theorem num_small {m : Nat} (h : m < 400) : ((m : Int)).natAbs.log2 < 1920 := by
  have e : ((m : Int)).natAbs = m := Int.natAbs_natCast m
  rw [e]
  exact Nat.lt_of_le_of_lt (Nat.log2_le_self m) (by omega)
/-- a sign of a written text -/
theorem sign_in {w : Str} (n : Nat) (h : (w.cps.toList.all fun k => decide (k < 128)) = true) : w.cps.toList.getD n 0 < 128 := by
  rw [List.getD_eq_getElem?_getD]
  cases e : w.cps.toList[n]? with
  | none => show 0 < 128; decide
  | some k => exact of_decide_eq_true (List.all_eq_true.mp h k (List.mem_of_getElem? e))
theorem bi_sign {w : Str} {c : Int} {n : Nat} {H : Hp} (hn : w.length = n) (h0 : 0 < n) (s : n ≤ 100000) : Bi rIxS (.str w) (.int (c.fmod n)) H (.str ⟨#[w.cps.toList.getD (c.fmod n).toNat 0]⟩) :=
  bi_ixS (by omega) (atI_in 0 (fmod_in c (by omega)).1 (by
    have h2 := (fmod_in c (m := n) (by omega)).2
    have e : w.cps.toList.length = w.length := Array.length_toList
    rw [e, hn]
    exact h2))

/-! ### defs that raise, calls of them; methods, new objects; defs called while an exception is handled -/
namespace RX
open PySem PySem.Spec PyProof.Rows L2
section
variable {X : Cx} {CX : CXT} {k : Nat} {f C : Addr} {fd : FuncData} {ps : List Str} {sp : Sp} {E : L2.St → XK} {x m : Str} {p pos apos : Pos} {e o : Expr} {es : List Expr} {ta : TE} {t : TA}
/-- nothing leaves -/
theorem passN : Passes (L2N.CX X.prog X.w) X E0 := by
  intro _ _ _ _ _ _ _ h
  obtain ⟨_, _, _, _, _, _, _, _, _, _, _, _, z⟩ := h
  exact z.elim
theorem takesN : L2N.Takes X fun _ _ _ _ => False := by
  intro _ _ h
  obtain ⟨_, _, _, _, _, _, _, _, _, _, _, _, _, _, _, _, z⟩ := h
  exact z.elim
theorem passA0 {G : L2.St → XK} : ∀ σ, PassesAt CX0 X σ (G σ) := fun _ _ _ _ _ _ _ h => h.elim
/-- what the callee lets out leaves the caller too -/
theorem passD {F : XK} (tk : L2N.Takes X fun c d _ H => F c d H) : Passes (L2N.CX X.prog X.w) X F := L2N.passes_call tk fun _ _ _ _ z => z
/-- a method called where what is raised is wished for at the slots -/
def tMethA (C : Addr) (m : Str) (sp : Sp) (E : L2.St → XK) (ta : TE) (t : TA) : TE := fun σ H Q => ta σ H fun y H1 =>
  ∃ a dx fs, y = .ref a ∧ H1 a = some (.ins C dx fs) ∧ fs.lookup m = none ∧ t σ H1 fun vs H2 => sp (y :: vs) H2 Q (E σ)
theorem pe_methA {pl : Sem Bool} (ho : PE X o ta) (c : Cls X.K C) (hm : Meth X.K C m f) (F : FnOk X.prog X.w X.K X.mg X.base CX k f fd ps sp) (hr : Room k X.A) (hb : Binds X.K fd ps []) (hx : ∀ σ, PassesAt CX X σ (E σ)) (ha : PA X (e :: es) t)
    (hst : starEach (e :: es) X.env = (false, eval e X.env) :: starEach es X.env := by rfl) (hpl : (backTo pos (starEach es X.env)).any (·.1) = false := by rfl)
    (ht : eval (.Call (.Attribute o m apos) (e :: es) [] pos) X.env = (eval o X.env >>= fun ov => standAt apos.atName >>= fun _ => holding [ov] (getMethod ov m pl) >>= fun g => callWith pos g.1 g.2 (backTo pos (starEach (e :: es) X.env)) (backToKw pos (keywordEach [] X.env))) := by rfl) :
    PE X (.Call (.Attribute o m apos) (e :: es) [] pos) (tMethA C m sp E ta t) := ⟨fun pins s σ H Q I h => by
  refine PySem.W.methodCall_KW (pl := pl) (thn (ho.run pins s σ H _ I h) fun u s1 hu => ?_) ht
  obtain ⟨y, H1, I1, ry, a, dx, fs, rfl, ea, l, q⟩ := hu
  obtain rfl : u = Value.ref a := ry
  refine getmeth_ok I1 ea c hm l (PySem.W.callWith_K (first := [.ref a]) (h₀ := X.base) I.ok.mod.kin hm.kp (thn (ha.run pos pins s1 σ H1 _ I1 q) fun us s2 hus => ?_) hst hpl)
  obtain ⟨vs, H2, I2, r, q2⟩ := hus
  exact ⟨I2.kIn, run_fnS (us := .ref a :: us) (vs := .ref a :: vs) F hr hb (hx σ) I2 (.cons rfl r) q2⟩⟩
theorem pe_methA0 {pl : Sem Bool} (ho : PE X o ta) (c : Cls X.K C) (hm : Meth X.K C m f) (F : FnOk X.prog X.w X.K X.mg X.base CX k f fd ps sp) (hr : Room k X.A) (hb : Binds X.K fd ps []) (hx : ∀ σ, PassesAt CX X σ (E σ))
    (ht : eval (.Call (.Attribute o m apos) [] [] pos) X.env = (eval o X.env >>= fun ov => standAt apos.atName >>= fun _ => holding [ov] (getMethod ov m pl) >>= fun g => callWith pos g.1 g.2 (backTo pos (starEach [] X.env)) (backToKw pos (keywordEach [] X.env))) := by rfl) :
    PE X (.Call (.Attribute o m apos) [] [] pos) (tMethA C m sp E ta tNil) := ⟨fun pins s σ H Q I h => by
  refine PySem.W.methodCall_KW (pl := pl) (thn (ho.run pins s σ H _ I h) fun u s1 hu => ?_) ht
  obtain ⟨y, H1, I1, ry, a, dx, fs, rfl, ea, l, q⟩ := hu
  obtain rfl : u = Value.ref a := ry
  exact getmeth_ok I1 ea c hm l (PySem.W.callWith_K0 (first := [.ref a]) I1.kIn hm.kp (run_fnS (us := [.ref a]) (vs := [.ref a]) F hr hb (hx σ) I1 (.cons rfl .nil) q))⟩
/-- C(..) where what is raised is wished for at the slots -/
def tMakeA (C : Addr) (sp : Sp) (E : L2.St → XK) (t : TA) : TE := fun σ H Q => t σ H fun vs H1 => ∀ y dx, H1 y = none → H1 dx = none → dx ≠ y →
  sp (.ref y :: vs) (upd (upd H1 dx (.own y)) y (.ins C dx [])) (fun v H2 => v = .non ∧ Q (.ref y) H2) (E σ)
theorem run_makeA {pins : List (Addr × Obj)} {σ : L2.St} {H : Hp} {s : Shared} {Q : VK} {us : List Value} {vs : List V} {F' : XK} (M : Mk X.K C f) (F : FnOk X.prog X.w X.K X.mg X.base CX k f fd ps sp) (hr : Room (k + 1) X.A) (hb : Binds X.K fd ps [])
    (hx : PassesAt CX X σ F') (I : Inv X pins σ H s) (r : Vals vs us)
    (h : ∀ y dx, H y = none → H dx = none → dx ≠ y → sp (.ref y :: vs) (upd (upd H dx (.own y)) y (.ins C dx [])) (fun v H2 => v = .non ∧ Q (.ref y) H2) F') :
    wpAny (model X.prog X.w) X.A (call (.ref C) us) (EP X pins σ Q) X.xe s := by
  have q := h (s.heap.objs.size + 1) s.heap.objs.size (I.hok.fresh (Nat.le_succ _)) (I.hok.fresh (Nat.le_refl _)) (Nat.ne_of_lt (Nat.lt_succ_self _))
  have I2 := Inv.made (C := C) I
  have r2 : Vals (V.ref (s.heap.objs.size + 1) :: vs) (Value.ref (s.heap.objs.size + 1) :: us) := .cons rfl r
  have hl : (Value.ref (s.heap.objs.size + 1) :: us).length = ps.length := r2.length.symm.trans (F.len _ _ _ _ q)
  have b := hb _ (Value.ref (s.heap.objs.size + 1) :: us) I2.kIn (by rw [List.append_nil]; exact hl)
  rw [List.append_nil] at b
  refine wpAny_call (make_map (f := f) I.kIn M.makes M.init (beq_iff_eq.mp M.fn) (codeAny_mono (F.run _ X.stack _ _ ⟨Value.ref (s.heap.objs.size + 1) :: us, []⟩ _ _ _ F' (hr.make C us []) (I2.env0.make C us []) b r2 q) fun r s' hq => ?_))
  cases r with
  | error e => exact hx pins _ _ e s' I2 hq
  | ok fl =>
    cases fl with
    | ret u =>
      obtain ⟨v, H', I3, rv, rfl, q3⟩ := I2.after hq
      exact ⟨rv, ⟨V.ref (s.heap.objs.size + 1), H', I3, rfl, q3⟩⟩
    | next => exact False.elim hq
    | brk => exact False.elim hq
    | cont => exact False.elim hq
theorem pe_makeA (M : Mk X.K C f) (F : FnOk X.prog X.w X.K X.mg X.base CX k f fd ps sp) (hr : Room (k + 1) X.A) (hg : Gl X x) (hm : X.mg x = some (.ref C)) (hb : Binds X.K fd ps []) (hx : ∀ σ, PassesAt CX X σ (E σ)) (ha : PA X (e :: es) t)
    (hdb : (x == ("__debug__" : Str)) = false := by decide) (he : starEach (e :: es) X.env = (false, eval e X.env) :: starEach es X.env := by rfl) (hpl : (backTo pos (starEach es X.env)).any (·.1) = false := by rfl) : PE X (.Call (.Name x p) (e :: es) [] pos) (tMakeA C sp E t) := ⟨fun pins s σ H Q I h => by
  refine wpAny_Call_Name_kw (ld_glob I hg hm (PySem.W.callWith_K (h₀ := X.base) I.ok.mod.kin M.kp (thn (ha.run pos pins s σ H _ I h) fun us s1 hus => ?_) he hpl) hdb)
  obtain ⟨vs, H1, I1, r, q⟩ := hus
  exact ⟨I1.kIn, run_makeA M F hr hb (hx σ) I1 r q⟩⟩
end
section
variable {P : Program} {w : World} {K : PySem.W.Frag} {mg : Str → Option Value} {base : Heap} {x qual : Str} {st : Stmt} {f : Addr} {fd : FuncData} {N ps : List Str} {k : Nat} {sp : Sp}
/-- a def that may raise -/
theorem okN (F : Fun K x qual st f fd) (S : FnScope N ps (defScope st)) (len : ∀ vs H Q E, sp vs H Q E → vs.length = ps.length)
    (h : ∀ (cdv : Value) (A : Around) (outer : List Env) (s : Shared) (H : Hp) (vs : List V) (Q : VK) (E : XK), Room k (A.deeper (envOfC qual (defScope st) s.heap.objs.size f cdv)) → sp vs H Q E →
      ∃ t, PSs (cxOf (L2N.CX P w) P w K mg base N qual (defScope st) f cdv A outer s H E) (defBody st) t ∧ t ⟨fun _ H' => Q .non H', Q, fun _ _ => False, fun _ _ => False⟩ (start N vs) H) : FnOk P w K mg base (L2N.CX P w) (k + 1) f fd ps sp := by
  obtain ⟨_, _, _, _, _, _, cdv, _, _, rfl, lk, hcd⟩ := F.ex
  exact fn_of lk hcd S len fun A outer s H vs Q E => h cdv A outer s H vs Q E
/-- a def called while an exception is handled, of which nothing is let out -/
theorem okH {CX : CXT} (F : Fun K x qual st f fd) (S : FnScope N ps (defScope st)) (len : ∀ vs H Q E, sp vs H Q E → vs.length = ps.length)
    (h : ∀ (cdv : Value) (A : Around) (outer : List Env) (s : Shared) (H : Hp) (vs : List V) (Q : VK) (E : XK) (z : Addr × Obj), L2H.Hot1 A z → L2H.RoomH k (A.deeper (envOfC qual (defScope st) s.heap.objs.size f cdv)) → sp vs H Q E →
      ∃ t, PSs (L2H.cxH CX P w K mg base N qual (defScope st) f cdv A outer s H E z) (defBody st) t ∧ t ⟨fun _ H' => Q .non H', Q, fun _ _ => False, fun _ _ => False⟩ (start N vs) H) : L2H.FnH P w K mg base CX (k + 1) f fd ps sp := by
  obtain ⟨_, _, _, _, _, _, cdv, _, _, rfl, lk, hcd⟩ := F.ex
  exact L2H.fn_ofH lk hcd S len fun A outer s H vs Q E z => h cdv A outer s H vs Q E z
end
/-- isinstance(e, c) of an exception that is pinned: its class, what the class says, the answer -/
def rIsP (K : PySem.W.Frag) (a : Addr) (cls : Value) (d : Option Addr) : List V → Hp → VK → Prop := fun xs H Q =>
  ∃ (D : Addr) (c : V) (cv : Value) (b : Bool), cls = .ref D ∧ d = none ∧ ExcC K D ∧ xs = [.ref a, c] ∧ (∀ u, RelV c u → u = cv) ∧ PySem.W.kitOne K (.ref D) cv = some b ∧ Q (.bl b) H
theorem call_isP {X : Cx} {a : Addr} {oe : Obj} {cls : Value} {d : Option Addr} (hp : (a, oe) ∈ X.pn) (hz : Zc cls d oe) (hf : ∃ vs, oe.data = .fields vs) : CallR X (.builtin "isinstance") (rIsP X.K a cls d) := by
  intro pins s σ H xs us Q I r h
  obtain ⟨D, c, cv, b, rfl, rfl, C, rfl, hcv, e, q⟩ := h
  obtain ⟨u1, us1, rx, r1, rfl⟩ : ∃ u1 us1, RelV (.ref a) u1 ∧ Vals [c] us1 ∧ us = u1 :: us1 := by
    cases r with
    | cons r1 r2 => exact ⟨_, _, r1, r2, rfl⟩
  obtain ⟨u2, rt, rfl⟩ : ∃ u2, RelV c u2 ∧ us1 = [u2] := by
    cases r1 with
    | cons r2 r3 =>
      cases r3
      exact ⟨_, r2, rfl⟩
  obtain rfl : u1 = .ref a := rx
  obtain rfl := hcv _ rt
  obtain ⟨vs, hv⟩ := hf
  have J : PySem.W.InstAt s.heap a oe D none := by
    have g := (I.pin (a, oe) (List.mem_append_left _ hp)).1
    obtain ⟨oc, od, oda, osl⟩ := oe
    obtain ⟨h1, h2⟩ := hz
    dsimp only at h1 h2 hv
    subst h1 h2 hv
    exact ⟨g, rfl, rfl, trivial⟩
  exact PySem.W.kia_one (PySem.W.handS_kitx_exc C.hg C.hk C.hs C.hd C.ha C.hn C.ht C.hm) I.kIn J e (fun z => nomatch z) fun tk => ⟨.bl b, H, I.kept (t' := tk) fun _ _ z => z, rfl, q⟩
/-- isinstance(e, (c1, c2, ..)) of an exception that is pinned -/
def rIsPT (K : PySem.W.Frag) (a : Addr) (cls : Value) (d : Option Addr) : List V → Hp → VK → Prop := fun xs H Q =>
  ∃ (D tp : Addr) (cs : List V) (us : List Value) (b : Bool), cls = .ref D ∧ d = none ∧ ExcC K D ∧ xs = [.ref a, .ref tp] ∧ H tp = some (.tup cs) ∧ Paired ClsV cs us ∧ PySem.W.kitAny K (.ref D) us = some b ∧ Q (.bl b) H
theorem call_isPT {X : Cx} {a : Addr} {oe : Obj} {cls : Value} {d : Option Addr} (hp : (a, oe) ∈ X.pn) (hz : Zc cls d oe) (hf : ∃ vs, oe.data = .fields vs) : CallR X (.builtin "isinstance") (rIsPT X.K a cls d) := by
  intro pins s σ H xs us Q I r h
  obtain ⟨D, tp, cs, ws, b, rfl, rfl, C, rfl, hT, k, e, q⟩ := h
  obtain ⟨u1, us1, rx, r1, rfl⟩ : ∃ u1 us1, RelV (.ref a) u1 ∧ Vals [.ref tp] us1 ∧ us = u1 :: us1 := by
    cases r with
    | cons r1 r2 => exact ⟨_, _, r1, r2, rfl⟩
  obtain ⟨u2, rt, rfl⟩ : ∃ u2, RelV (.ref tp) u2 ∧ us1 = [u2] := by
    cases r1 with
    | cons r2 r3 =>
      cases r3
      exact ⟨_, r2, rfl⟩
  obtain rfl : u1 = .ref a := rx
  obtain rfl : u2 = .ref tp := rt
  obtain ⟨vs, hv⟩ := hf
  have J : PySem.W.InstAt s.heap a oe D none := by
    have g := (I.pin (a, oe) (List.mem_append_left _ hp)).1
    obtain ⟨oc, od, oda, osl⟩ := oe
    obtain ⟨h1, h2⟩ := hz
    dsimp only at h1 h2 hv
    subst h1 h2 hv
    exact ⟨g, rfl, rfl, trivial⟩
  obtain ⟨_, its, rv, o, h1, h2, n, h3⟩ := (show ObjOk X.prog X.w H s.heap tp (.tup cs) from I.hok tp _ hT)
  have e3 := ClsV.all k rv
  subst e3
  obtain ⟨oc, od, dt, sl⟩ := o
  simp only at h2 h3
  subst h2 h3
  exact PySem.W.kia_tup (PySem.W.handS_kitx_exc C.hg C.hk C.hs C.hd C.ha C.hn C.ht C.hm) I.kIn J h1 e (fun z => nomatch z) fun tk => ⟨.bl b, H, I.kept (t' := tk) fun _ _ z => z, rfl, q⟩
end RX

/-! ### a def that is handed the exception that is being handled -/
namespace RX
open PySem PySem.Spec PyProof.Rows L2
/-- as FnH; the promise knows the exception, its place and what stands there -/
structure FnE (P : Program) (w : World) (K : PySem.W.Frag) (mg : Str → Option Value) (base : Heap) (CX : CXT) (k : Nat) (f : Addr) (fd : FuncData) (ps : List Str) (sp : Addr → Value → Option Addr → Sp) : Prop where
  len : ∀ a c d vs H Q E, sp a c d vs H Q E → vs.length = ps.length
  run : ∀ (A : Around) (outer : List Env) (s : Shared) (H : Hp) (args : Args) (us : List Value) (vs : List V) (Q : VK) (E : XK) (z : Addr × Obj) (c : Value) (d : Option Addr), L2H.RoomH k A → L2H.Hot1 A z → L2H.PinOk outer H s z → Zc c d z.2 → Env0 P w K mg base A outer s H →
    BindsTo s fd args (ps.zip us) → Vals vs us → sp z.1 c d vs H Q E → codeAny (model P w) A (.call (.ref f) args) (CR CX outer P w H s Q E) s
section
variable {P : Program} {w : World} {K : PySem.W.Frag} {mg : Str → Option Value} {base : Heap} {x qual : Str} {st : Stmt} {f : Addr} {fd : FuncData} {N ps : List Str} {k : Nat} {sp : Addr → Value → Option Addr → Sp}
theorem okE {CX : CXT} (F : Fun K x qual st f fd) (S : FnScope N ps (defScope st)) (len : ∀ a c d vs H Q E, sp a c d vs H Q E → vs.length = ps.length)
    (h : ∀ (cdv : Value) (A : Around) (outer : List Env) (s : Shared) (H : Hp) (vs : List V) (Q : VK) (E : XK) (z : Addr × Obj) (c : Value) (d : Option Addr), L2H.Hot1 A z → Zc c d z.2 → L2H.RoomH k (A.deeper (envOfC qual (defScope st) s.heap.objs.size f cdv)) → sp z.1 c d vs H Q E →
      ∃ t, PSs (L2H.cxH CX P w K mg base N qual (defScope st) f cdv A outer s H E z) (defBody st) t ∧ t ⟨fun _ H' => Q .non H', Q, fun _ _ => False, fun _ _ => False⟩ (start N vs) H) : FnE P w K mg base CX (k + 1) f fd ps sp := by
  obtain ⟨_, _, _, _, _, _, cdv, _, _, rfl, lk, hcd⟩ := F.ex
  refine ⟨len, fun A outer s H args us vs Q E z cc dd hr hot hpin hc e0 hb r hsp => ?_⟩
  have hin : K.In s.heap := e0.mod.kin.keeps fun b o hbo => (e0.bs b o hbo).1
  refine codeAny_call_function hr.depth (hin _ _ lk) rfl S.co S.gen rfl (PySem.W.codeRec_of hin hcd) (hb _ _ _ _ (wpAny_newFunctionEnv_cells S.kind (fun y hy => ?_) fun env he s1 c => ?_))
  · rcases S.par y.1 (List.of_mem_zip (show (y.1, y.2) ∈ _ from hy)).1 with q | q
    · exact .inl q
    · exact .inr ⟨q, PySem.W.cellsFrom_some _ _ _ (.inl q)⟩
  subst he
  obtain ⟨t, ht, hq⟩ := h cdv A outer s H vs Q E z cc dd hot hc (hr.deeper _) hsp
  have I := L2H.inv_startH (CX := CX) (E := E) S hpin e0 (len _ _ _ _ _ _ _ hsp) r c
  have nl : s.heap.NoLimit := e0.mod.nolimit.keeps fun b o hbo => (e0.bs b o hbo).1
  refine ⟨nl.keeps c.toInCall.keep, codeAny_func (wpAny_mono (ht.run [] s1 _ H _ I hq) (fun fl s' hs => ?_) fun _ _ hs => hs)⟩
  cases fl with
  | ret u => exact let ⟨v, _, H', J, rv, q⟩ := hs; ⟨v, H', J.os, J.bare, J.base, J.hok, rv, q⟩
  | next => exact let ⟨_, H', J, q⟩ := hs; ⟨.non, H', J.os, J.bare, J.base, J.hok, rfl, q⟩
  | brk => exact let ⟨_, _, _, q⟩ := hs; q.elim
  | cont => exact let ⟨_, _, _, q⟩ := hs; q.elim
end
section
variable {X : Cx} {CX : CXT} {k : Nat} {f : Addr} {fd : FuncData} {ps : List Str} {sp : Addr → Value → Option Addr → Sp} {E : L2.St → XK} {x : Str} {p pos : Pos} {e : Expr} {es : List Expr} {t : TA} {a : Addr} {oe : Obj} {c : Value} {d : Option Addr}
def tCallE (a : Addr) (c : Value) (d : Option Addr) (sp : Addr → Value → Option Addr → Sp) (E : L2.St → XK) (t : TA) : TE := fun σ H Q => t σ H fun vs H1 => sp a c d vs H1 Q (E σ)
theorem pe_callE (F : FnE X.prog X.w X.K X.mg X.base CX k f fd ps sp) (hr : L2H.RoomH k X.A) (hz : L2H.Hot1 X.A (a, oe)) (hp : (a, oe) ∈ X.pn) (hc : Zc c d oe) (hg : Gl X x) (hm : X.mg x = some (.ref f)) (hk : PySem.W.keepIn X.K (.ref f) = true) (hb : Binds X.K fd ps [])
    (hx : ∀ σ, PassesAt CX X σ (E σ)) (ha : PA X (e :: es) t) (hdb : (x == ("__debug__" : Str)) = false := by decide) (he : starEach (e :: es) X.env = (false, eval e X.env) :: starEach es X.env := by rfl) (hpl : (backTo pos (starEach es X.env)).any (·.1) = false := by rfl) :
    PE X (.Call (.Name x p) (e :: es) [] pos) (tCallE a c d sp E t) := ⟨fun pins s σ H Q I h => by
  refine wpAny_Call_Name_kw (ld_glob I hg hm (PySem.W.callWith_K (h₀ := X.base) I.ok.mod.kin hk (thn (ha.run pos pins s σ H _ I h) fun us s1 hus => ?_) he hpl) hdb)
  obtain ⟨vs, H1, J, r, q⟩ := hus
  have hl : us.length = ps.length := r.length.symm.trans (F.len _ _ _ _ _ _ _ q)
  have b := hb s1 us J.kIn (by rw [List.append_nil]; exact hl)
  rw [List.append_nil] at b
  have P1 := J.pin (a, oe) (List.mem_append_left _ hp)
  refine ⟨J.kIn, wpAny_call (codeAny_mono (F.run X.A X.stack s1 H1 ⟨us, []⟩ us vs Q (E σ) (a, oe) c d hr hz ⟨P1.1, P1.2.1, fun hm => (List.mem_cons.mp (J.stkSub _ hm)).elim P1.2.2.1 P1.2.2.2.1, P1.2.2.2.2⟩ hc J.env0 b r q) fun r s' hq => ?_)⟩
  cases r with
  | error e => exact hx σ pins H1 s1 e s' J hq
  | ok fl =>
    cases fl with
    | ret u => exact J.after hq
    | next => exact hq.elim
    | brk => exact hq.elim
    | cont => exact hq.elim⟩
theorem hot_suite {a : Addr} {oe : Obj} {cls : Value} {d : Option Addr} {A : Around} (hz : L2N.Zn cls d oe) (hf : ∃ vs, oe.data = .fields vs) : L2H.Hot1 (A.mark (some (.ref a))) (a, oe) := by
  obtain ⟨vs, e⟩ := hf
  exact ⟨rfl, vs, e, hz.2.2 vs e⟩
theorem fields_of {A : Around} {z : Addr × Obj} (h : L2H.Hot1 A z) : ∃ vs, z.2.data = .fields vs := let ⟨_, vs, e, _⟩ := h; ⟨vs, e⟩
theorem roomH_suite {k : Nat} {A : Around} {h : Option Value} (r : Room k A) : L2H.RoomH k (A.mark h) := ⟨r.dp, r.un⟩
end
end RX

/-! ### wishes, tuples at places, rows of a journal -/
def wishOf (c : Int) : Str := if c.fmod 3 = 0 then wr else rd
theorem wishOf_ok (c : Int) : wishOf c = rd ∨ wishOf c = wr := by
  unfold wishOf
  split
  · exact .inr rfl
  · exact .inl rfl
def spWish : Sp := fun vs H Q _ => ∃ c : Int, vs = [.int c] ∧ RV (.str (wishOf c)) H Q
theorem sv_wish {H : Hp} {c : Int} : SpV spWish [.int c] H (.str (wishOf c)) := fun H1 Q E g q => ⟨c, rfl, q⟩
/-- tuples at these places, what they hold -/
inductive TupsAt (H : Hp) {α : Type} (f : α → List V) : List V → List α → Prop
  | nil : TupsAt H f [] []
  | cons {p : Addr} {r : α} {vs : List V} {l : List α} : H p = some (.tup (f r)) → TupsAt H f vs l → TupsAt H f (.ref p :: vs) (r :: l)
namespace TupsAt
variable {α : Type} {f : α → List V}
theorem mono {H H' : Hp} (g : Gr H H') : ∀ {vs : List V} {l : List α}, TupsAt H f vs l → TupsAt H' f vs l
  | _, _, .nil => .nil
  | _, _, .cons h t => .cons (g.tup h) (mono g t)
theorem chg {H : Hp} {a : Addr} {o : HO} (n : ∀ ts, H a ≠ some (.tup ts)) : ∀ {vs : List V} {l : List α}, TupsAt H f vs l → TupsAt (upd H a o) f vs l
  | _, _, .nil => .nil
  | _, _, .cons h t => .cons ((upd_ne fun e => n _ (e ▸ h)).trans h) (chg n t)
theorem length {H : Hp} : ∀ {vs : List V} {l : List α}, TupsAt H f vs l → vs.length = l.length
  | _, _, .nil => rfl
  | _, _, .cons _ t => by rw [List.length_cons, List.length_cons, length t]
theorem get {H : Hp} : ∀ {vs : List V} {l : List α} (m : Nat) {r : α}, TupsAt H f vs l → l[m]? = some r → ∃ p, vs[m]? = some (.ref p) ∧ H p = some (.tup (f r))
  | _, _, _, _, .nil, h => by simp at h
  | _, _, 0, _, .cons h _, e => by
    cases e
    exact ⟨_, rfl, h⟩
  | _, _, m + 1, _, .cons _ t, e => get m t e
theorem snoc {H : Hp} {p : Addr} {r : α} (h : H p = some (.tup (f r))) : ∀ {vs : List V} {l : List α}, TupsAt H f vs l → TupsAt H f (vs ++ [.ref p]) (l ++ [r])
  | _, _, .nil => .cons h .nil
  | _, _, .cons k t => .cons k (snoc h t)
theorem app {H : Hp} : ∀ {vs ws : List V} {l m : List α}, TupsAt H f vs l → TupsAt H f ws m → TupsAt H f (vs ++ ws) (l ++ m)
  | _, _, _, _, .nil, k => k
  | _, _, _, _, .cons h t, k => .cons h (app t k)
theorem take {H : Hp} : ∀ (n : Nat) {vs : List V} {l : List α}, TupsAt H f vs l → TupsAt H f (vs.take n) (l.take n)
  | 0, _, _, _ => .nil
  | _ + 1, _, _, .nil => .nil
  | n + 1, _, _, .cons h t => .cons h (take n t)
theorem drop {H : Hp} : ∀ (n : Nat) {vs : List V} {l : List α}, TupsAt H f vs l → TupsAt H f (vs.drop n) (l.drop n)
  | 0, _, _, h => h
  | _ + 1, _, _, .nil => .nil
  | n + 1, _, _, .cons _ t => drop n t
end TupsAt

section
variable {K : PySem.W.Frag} {σ : L2.St} {H H' : Hp} {t1 t2 t3 : TE} {c1 c2 : TT} {x y z v : V}
theorem v_isl {p : Addr} {xs : List V} (h : Vl t1 σ H (.ref p)) (hp : H p = some (.lst xs)) : Vl (tCB (rIsi K) (tCons t1 (tCons (tC (.ty "list")) tNil))) σ H (.bl true) := v_isi h v_con (.ty _) (fun _ g => .base (.lst (g.lst hp))) (kit_ty (by decide +kernel))
theorem v_ist {p : Addr} {xs : List V} (h : Vl t1 σ H (.ref p)) (hp : H p = some (.tup xs)) : Vl (tCB (rIsi K) (tCons t1 (tCons (tC (.ty "tuple")) tNil))) σ H (.bl true) := v_isi h v_con (.ty _) (fun _ g => .base (.tup (g.tup hp))) (kit_ty (by decide +kernel))
theorem v_lenT {p : Addr} {xs : List V} (h : Vl t1 σ H (.ref p)) (s : SqT K H p xs) : Vl (tCB (fLen K) (tCons t1 tNil)) σ H (.int xs.length) := v_blt (g_cons h g_nil) fun H1 _ g q => ⟨p, xs, rfl, .inr (g.st s), q H1 (.refl _)⟩
theorem l_cmpT {a : Addr} {xs : List V} {j : Nat} {ws : List Nat} (f : Nat → Bool) (val : Nat → V) (h : Vl t2 σ H (.ref a)) (s : SqT K H a xs) (hz : xs.length ≤ 40000) (hw : ∀ x, wipe ((wipe σ ws).set j (some x)) ws = wipe σ ws)
    (ht : ∀ (m : Nat) (x : V) H1, Gr H H1 → xs[m]? = some x → Ts c1 ((wipe σ ws).set j (some x)) H1 (f m)) (he : ∀ (m : Nat) (x : V) H1, Gr H H1 → xs[m]? = some x → f m = true → Vl t1 ((wipe σ ws).set j (some x)) H1 (val m)) :
    Ls (tLc (iTup K t2) (gName j) c1 t1 ws) σ H (out xs.length f val) := fun H0 Q g q => h H0 _ g fun H1 g1 => ⟨a, rfl, ⟨xs, (g.trans g1).st s⟩, fun p hp =>
  lc_tup (xs := xs) (Cmp H1 f val p) ⟨hp, .new hp, upd_same⟩ (fun _ H' _ w => ((g.trans g1).trans w.2.1).st s) (fun m x H' hm w => ⟨hw x, w.turn (by have := (List.getElem?_eq_some_iff.mp hm).1; omega) (ht m x H1 (g.trans g1) hm) fun hf => he m x H1 (g.trans g1) hm hf⟩)
    fun H' w => q p H' (g1.free w.1) (g1.trans w.2.1) w.2.2⟩
end
theorem Tu.toN {σ : L2.St} {H : Hp} {t1 : TE} {xs : List V} (h : Tu t1 σ H xs) : Vr t1 σ H (fun u H2 => ∃ p, u = .ref p ∧ H p = none ∧ H2 p = some (.tup xs)) := fun H1 Q g q => h H1 Q g fun p H2 hp g2 e => q _ H2 g2 ⟨p, rfl, g.free hp, e⟩
/-- a row: some words -/
abbrev JRow := List Str
def JRow.vs (r : JRow) : List V := r.map V.str
def JRow.good (r : JRow) : Prop := 2 ≤ r.length ∧ r.length ≤ 3 ∧ ∀ s ∈ r, Asc s ∧ s.length ≤ 100
/-- a row as journals have them -/
def JRow.ok (r : JRow) : Prop := ∃ w n : Str, nameB n = true ∧ (((w = "came" ∨ w = "begins") ∧ ∃ x, (x = rd ∨ x = wr) ∧ r = [w, n, x]) ∨ ((w = "left" ∨ w = "asked" ∨ w = "eased") ∧ r = [w, n]))
theorem word_asc {w : Str} (h : w ∈ (["came", "begins", "left", "asked", "eased", "read", "write"] : List Str)) : Asc w ∧ w.length ≤ 6 := by
  have key : ∀ s ∈ (["came", "begins", "left", "asked", "eased", "read", "write"] : List Str), (s.cps.toList.all fun k => decide (k < 128)) = true ∧ s.length ≤ 6 := by decide +kernel
  obtain ⟨a, b⟩ := key w h
  exact ⟨fun k hk => of_decide_eq_true (List.all_eq_true.mp a k hk), b⟩
theorem JRow.ok.good {r : JRow} (h : r.ok) : r.good := by
  obtain ⟨w, n, hn, h⟩ := h
  obtain ⟨_, n2, n3⟩ := nameB_is hn
  have an : Asc n ∧ n.length ≤ 100 := ⟨n3.asc, by omega⟩
  rcases h with ⟨hw, x, hx, rfl⟩ | ⟨hw, rfl⟩
  · have aw := word_asc (w := w) (by rcases hw with rfl | rfl <;> decide)
    have ax := word_asc (w := x) (by rcases hx with rfl | rfl <;> decide)
    refine ⟨by simp, by simp, fun s hs => ?_⟩
    simp only [List.mem_cons, List.not_mem_nil, or_false] at hs
    rcases hs with rfl | rfl | rfl
    · exact ⟨aw.1, by omega⟩
    · exact an
    · exact ⟨ax.1, by omega⟩
  · have aw := word_asc (w := w) (by rcases hw with rfl | rfl | rfl <;> decide)
    refine ⟨by simp, by simp, fun s hs => ?_⟩
    simp only [List.mem_cons, List.not_mem_nil, or_false] at hs
    rcases hs with rfl | rfl
    · exact ⟨aw.1, by omega⟩
    · exact an
def rowsD (l : List JRow) : List PyData := l.map fun r => .tuple (r.map PyData.str)
theorem dps_rows {K : PySem.W.Frag} {H : Hp} : ∀ {vs : List V} {l : List JRow}, TupsAt H JRow.vs vs l → DpAll K H vs (rowsD l)
  | _, _, .nil => .nil
  | _, _, .cons h t => .cons (.tup (SqT.of h) (dps_str _)) (dps_rows t)
theorem canLay_rows : ∀ l : List JRow, (∀ r ∈ l, r.good) → PyData.canLayAll0 (rowsD l) = true
  | [], _ => by simp [rowsD, PyData.canLayAll0]
  | r :: l, h => by
    have t := canLay_rows l fun b hb => h b (List.mem_cons_of_mem _ hb)
    have t2 := canLay_strs r fun s hs => ((h r List.mem_cons_self).2.2 s hs).1
    unfold rowsD at t ⊢
    rw [List.map_cons]
    simp [PyData.canLayAll0, PyData.canLay0, t, t2]
theorem depth_rows : ∀ l : List JRow, PyData.depthAll (rowsD l) ≤ 1
  | [] => by simp [rowsD, PyData.depthAll]
  | r :: l => by
    have t := depth_rows l
    have t2 := depth_strs r
    unfold rowsD at t ⊢
    rw [List.map_cons]
    simp only [PyData.depthAll, PyData.depth, t2]
    omega
theorem shaped_rows (l : List JRow) (h : ∀ r ∈ l, r.good) : SeqAt.shaped (.list (rowsD l)) = true := by
  have a := canLay_rows l h
  have b := depth_rows l
  unfold SeqAt.shaped
  rw [show PyData.canLay0 (.list (rowsD l)) = PyData.canLayAll0 (rowsD l) by simp [PyData.canLay0], a, Bool.true_and]
  refine decide_eq_true ?_
  simp only [PyData.depth]
  omega
/-- two lists of the same good rows -/
def spAlike (K : PySem.W.Frag) : Sp := fun vs H Q _ => ∃ (p u : Addr) (xs ys : List V) (l : List JRow), vs = [.ref p, .ref u] ∧ H p = some (.lst xs) ∧ H u = some (.lst ys) ∧ TupsAt H JRow.vs xs l ∧ TupsAt H JRow.vs ys l ∧ l.length ≤ 30000 ∧ (∀ r ∈ l, r.good) ∧ RV (.bl true) H Q
theorem sv_alike {K : PySem.W.Frag} {H : Hp} {p u : Addr} {xs ys : List V} {l : List JRow} (hp : H p = some (.lst xs)) (hu : H u = some (.lst ys)) (tx : TupsAt H JRow.vs xs l) (ty : TupsAt H JRow.vs ys l) (n : l.length ≤ 30000) (g : ∀ r ∈ l, r.good) : SpV (spAlike K) [.ref p, .ref u] H (.bl true) :=
  fun H1 Q E e q => ⟨p, u, xs, ys, l, rfl, e.lst hp, e.lst hu, tx.mono e, ty.mono e, n, g, q⟩
/-- a new list of so many rows -/
def JRows (n : Nat) (v : V) (H : Hp) : Prop := ∃ (p : Addr) (vs : List V) (l : List JRow), v = .ref p ∧ H p = some (.lst vs) ∧ TupsAt H JRow.vs vs l ∧ l.length ≤ n ∧ ∀ r ∈ l, r.ok
def spRowsBy (K : PySem.W.Frag) : Sp := fun vs H Q _ => ∃ (a : Addr) (ns : List Int), vs = [.ref a] ∧ SqL K H a (ns.map V.int) ∧ RR_ (JRows 400) H Q

/-! ### names and wishes, asked of any thing -/
/-- what is asked by is_name, is_wish: a text, or a thing that is none -/
def spKind (K : PySem.W.Frag) (P : Addr) (f : Str → Bool) : Sp := fun vs H Q _ => ∃ v, vs = [v] ∧ GxR.TabG H P ∧ ((∃ z, v = .str z ∧ z.length ≤ 100000 ∧ RV (.bl (f z)) H Q) ∨ (NoStr K v H ∧ RV (.bl false) H Q))
theorem sv_kindS {K : PySem.W.Frag} {P : Addr} {f : Str → Bool} {H : Hp} {z : Str} (t : GxR.TabG H P) (n : z.length ≤ 100000) : SpV (spKind K P f) [.str z] H (.bl (f z)) := fun H1 Q E g q => ⟨_, rfl, g.tab t, .inl ⟨z, rfl, n, q⟩⟩
theorem sv_kindN {K : PySem.W.Frag} {P : Addr} {f : Str → Bool} {H : Hp} {v : V} (t : GxR.TabG H P) (n : NoStr K v H) : SpV (spKind K P f) [v] H (.bl false) := fun H1 Q E g q => ⟨_, rfl, g.tab t, .inr ⟨n.mono g, q⟩⟩

/-! ### what is a row -/
theorem in_words (z : Str) (l : List Str) : inV (.str z) (l.map V.str) = decide (z ∈ l) := by
  unfold inV
  rw [Bool.eq_iff_iff, List.any_eq_true, decide_eq_true_eq]
  have e : ∀ a b : Str, eqV (.str a) (.str b) = decide (V.str b = V.str a) := fun a b => by
    rw [dec_str]
    exact Bool.beq_comm ..
  constructor
  · rintro ⟨u, hu, h⟩
    obtain ⟨s, hs, rfl⟩ := List.mem_map.mp hu
    rw [e] at h
    have := V.str.inj (of_decide_eq_true h)
    rw [this]
    exact hs
  · intro h
    exact ⟨.str z, List.mem_map.mpr ⟨z, h, rfl⟩, by rw [e]; exact decide_eq_true rfl⟩
theorem flat_words : ∀ l : List Str, (l.map V.str).all flatV = true
  | [] => rfl
  | _ :: l => by rw [List.map_cons, List.all_cons, flat_words l]; rfl
/-- a call whose second argument is a new tuple -/
theorem v_callU {σ : L2.St} {H : Hp} {t1 t2 : TE} {sp : Sp} {E : XK} {x z : V} {xs : List V} (a : Vl t1 σ H x) (d : Tu t2 σ H xs) (k : ∀ p H1, Gr H H1 → H1 p = some (.tup xs) → SpV sp [x, .ref p] H1 z) : Vl (tCall sp [] E (tCons t1 (tCons t2 tNil))) σ H z :=
  fun H1 Q g q => a H1 _ g fun H2 g2 => d H2 _ (g.trans g2) fun p H3 _ g3 e => k p H3 ((g.trans g2).trans g3) e H3 Q _ (.refl _) fun H4 g4 => q H4 ((g2.trans g3).trans g4)
/-- a text of some length, or no text -/
def Thing (K : PySem.W.Frag) (v : V) (H : Hp) : Prop := (∃ z, v = .str z ∧ z.length ≤ 100000) ∨ (NoStr K v H ∧ ∀ z, v ≠ .str z)
theorem Thing.mono {K : PySem.W.Frag} {v : V} {H H' : Hp} (g : Gr H H') (h : Thing K v H) : Thing K v H' := h.imp id fun ⟨a, b⟩ => ⟨a.mono g, b⟩
def nameV : V → Bool
  | .str z => nameB z
  | _ => false
def wishV : V → Bool
  | .str z => decide (z = rd) || decide (z = wr)
  | _ => false
def wordV (l : List Str) : V → Bool
  | .str z => decide (z ∈ l)
  | _ => false
def rowV : List V → Bool
  | [w, n, x] => wordV ["came", "begins"] w && (nameV n && wishV x)
  | [w, n] => wordV ["left", "asked", "eased"] w && nameV n
  | _ => false
theorem wishV_B (z : Str) : wishV (.str z) = wishB z := by
  rw [wish_is]
  show (decide (z = rd) || decide (z = wr)) = _
  have e : ∀ a b : Str, decide (a = b) = decide (V.str a = V.str b) := fun a b => decide_eq_decide.mpr ⟨congrArg V.str, V.str.inj⟩
  rw [e, e]
theorem no_of {v : V} (h : ∀ z, v ≠ .str z) : nameV v = false ∧ wishV v = false ∧ ∀ l, wordV l v = false := by
  cases v <;> first | exact absurd rfl (h _) | exact ⟨rfl, rfl, fun _ => rfl⟩
theorem rowV_ok {r : JRow} : rowV (JRow.vs r) = true ↔ r.ok := by
  unfold JRow.vs JRow.ok
  constructor
  · intro h
    match r, h with
    | [w, n, x], h =>
      simp only [List.map_cons, List.map_nil, rowV, Bool.and_eq_true, wordV, nameV, wishV, Bool.or_eq_true, decide_eq_true_eq, List.mem_cons, List.not_mem_nil, or_false] at h
      exact ⟨w, n, h.2.1, .inl ⟨h.1, x, h.2.2, rfl⟩⟩
    | [w, n], h =>
      simp only [List.map_cons, List.map_nil, rowV, Bool.and_eq_true, wordV, nameV, decide_eq_true_eq, List.mem_cons, List.not_mem_nil, or_false] at h
      exact ⟨w, n, h.2, .inr ⟨h.1, rfl⟩⟩
    | [], h => simp [rowV] at h
    | [_], h => simp [rowV] at h
    | _ :: _ :: _ :: _ :: _, h => simp [rowV] at h
  · rintro ⟨w, n, hn, ⟨hw, x, hx, rfl⟩ | ⟨hw, rfl⟩⟩
    · simp only [List.map_cons, List.map_nil, rowV, Bool.and_eq_true, wordV, nameV, wishV, Bool.or_eq_true, decide_eq_true_eq, List.mem_cons, List.not_mem_nil, or_false]
      exact ⟨hw, hn, hx⟩
    · simp only [List.map_cons, List.map_nil, rowV, Bool.and_eq_true, wordV, nameV, decide_eq_true_eq, List.mem_cons, List.not_mem_nil, or_false]
      exact ⟨hw, hn⟩
def spIsWord (K : PySem.W.Frag) : Sp := fun vs H Q _ => ∃ (v : V) (p : Addr) (l : List Str), vs = [v, .ref p] ∧ Thing K v H ∧ SqT K H p (l.map V.str) ∧ RV (.bl (wordV l v)) H Q
theorem sv_isword {K : PySem.W.Frag} {H : Hp} {v : V} {p : Addr} {l : List Str} (h : Thing K v H) (s : SqT K H p (l.map V.str)) : SpV (spIsWord K) [v, .ref p] H (.bl (wordV l v)) := fun H1 Q E g q => ⟨v, p, l, rfl, h.mono g, g.st s, q⟩
theorem sv_name {K : PySem.W.Frag} {P : Addr} {H : Hp} {v : V} (t : GxR.TabG H P) (h : Thing K v H) : SpV (spKind K P nameB) [v] H (.bl (nameV v)) := by
  rcases h with ⟨z, rfl, hz⟩ | ⟨n, no⟩
  · exact sv_kindS t hz
  · rw [(no_of no).1]
    exact sv_kindN t n
theorem sv_wishv {K : PySem.W.Frag} {P : Addr} {H : Hp} {v : V} (t : GxR.TabG H P) (h : Thing K v H) : SpV (spKind K P wishB) [v] H (.bl (wishV v)) := by
  rcases h with ⟨z, rfl, hz⟩ | ⟨n, no⟩
  · rw [wishV_B]
    exact sv_kindS t hz
  · rw [(no_of no).2.1]
    exact sv_kindN t n
/-- a thing of a known kind that is no tuple -/
def NoTup (K : PySem.W.Frag) (v : V) (H : Hp) : Prop := ∃ n : String, TyX K H v (.type n) ∧ PySem.W.kitOne K (.type n) (.type "tuple") = some false
theorem NoTup.mono {K : PySem.W.Frag} {v : V} {H H' : Hp} (g : Gr H H') (h : NoTup K v H) : NoTup K v H' := let ⟨n, a, b⟩ := h; ⟨n, g.tyX a, b⟩
def spIsRow (K : PySem.W.Frag) (P : Addr) : Sp := fun vs H Q _ => ∃ v : V, vs = [v] ∧ GxR.TabG H P ∧ ((∃ p xs, v = .ref p ∧ H p = some (.tup xs) ∧ (∀ x ∈ xs, Thing K x H) ∧ RV (.bl (rowV xs)) H Q) ∨ (NoTup K v H ∧ RV (.bl false) H Q))
theorem sv_isrow {K : PySem.W.Frag} {P : Addr} {H : Hp} {p : Addr} {xs : List V} (t : GxR.TabG H P) (h : H p = some (.tup xs)) (th : ∀ x ∈ xs, Thing K x H) : SpV (spIsRow K P) [.ref p] H (.bl (rowV xs)) := fun H1 Q E g q => ⟨_, rfl, g.tab t, .inl ⟨p, xs, rfl, g.tup h, fun x hx => (th x hx).mono g, q⟩⟩
theorem sv_norow {K : PySem.W.Frag} {P : Addr} {H : Hp} {v : V} (t : GxR.TabG H P) (h : NoTup K v H) : SpV (spIsRow K P) [v] H (.bl false) := fun H1 Q E g q => ⟨v, rfl, g.tab t, .inr ⟨h.mono g, q⟩⟩

def topS (i : Nat) : Stmt := PySem.Challenge.pw_readwriteroom_k13_whole_judged.main.body.getD i (.Pass ⟨0, 0, 0, 0⟩)
abbrev sIsName : Stmt := topS 20
abbrev nmIsName : List Str := ["thing"]
theorem start_IsName (v0 : V) : L2.start nmIsName [v0] = [some v0] := rfl
theorem scIsName : FnScope nmIsName ["thing"] (defScope sIsName) := ⟨rfl, rfl, rfl, by decide +kernel, rfl, by decide +kernel, by decide +kernel⟩
abbrev sIsWish : Stmt := topS 21
abbrev nmIsWish : List Str := ["thing"]
theorem start_IsWish (v0 : V) : L2.start nmIsWish [v0] = [some v0] := rfl
theorem scIsWish : FnScope nmIsWish ["thing"] (defScope sIsWish) := ⟨rfl, rfl, rfl, by decide +kernel, rfl, by decide +kernel, by decide +kernel⟩
abbrev sCan : Stmt := topS 22
abbrev nmCan : List Str := ["seats", "reading", "writes", "wish"]
theorem start_Can (v0 v1 v2 v3 : V) : L2.start nmCan [v0, v1, v2, v3] = [some v0, some v1, some v2, some v3] := rfl
theorem scCan : FnScope nmCan ["seats", "reading", "writes", "wish"] (defScope sCan) := ⟨rfl, rfl, rfl, by decide +kernel, rfl, by decide +kernel, by decide +kernel⟩
abbrev sFirst : Stmt := topS 23
abbrev nmFirst : List Str := ["line", "patience", "place", "_", "wish", "passed"]
theorem start_First (v0 v1 : V) : L2.start nmFirst [v0, v1] = [some v0, some v1, none, none, none, none] := rfl
theorem scFirst : FnScope nmFirst ["line", "patience"] (defScope sFirst) := ⟨rfl, rfl, rfl, by decide +kernel, rfl, by decide +kernel, by decide +kernel⟩
abbrev sNextP : Stmt := topS 24
abbrev nmNextP : List Str := ["line", "seats", "patience", "reading", "writes", "wish"]
theorem start_NextP (v0 v1 v2 v3 v4 : V) : L2.start nmNextP [v0, v1, v2, v3, v4] = [some v0, some v1, some v2, some v3, some v4, none] := rfl
theorem scNextP : FnScope nmNextP ["line", "seats", "patience", "reading", "writes"] (defScope sNextP) := ⟨rfl, rfl, rfl, by decide +kernel, rfl, by decide +kernel, by decide +kernel⟩
abbrev sIsWord : Stmt := topS 31
abbrev nmIsWord : List Str := ["thing", "words"]
theorem start_IsWord (v0 v1 : V) : L2.start nmIsWord [v0, v1] = [some v0, some v1] := rfl
theorem scIsWord : FnScope nmIsWord ["thing", "words"] (defScope sIsWord) := ⟨rfl, rfl, rfl, by decide +kernel, rfl, by decide +kernel, by decide +kernel⟩
abbrev sIsRow : Stmt := topS 32
abbrev nmIsRow : List Str := ["thing", "word", "name", "wish"]
theorem start_IsRow (v0 : V) : L2.start nmIsRow [v0] = [some v0, none, none, none] := rfl
theorem scIsRow : FnScope nmIsRow ["thing"] (defScope sIsRow) := ⟨rfl, rfl, rfl, by decide +kernel, rfl, by decide +kernel, by decide +kernel⟩
abbrev sIsNumber : Stmt := topS 37
abbrev nmIsNumber : List Str := ["thing", "least"]
theorem start_IsNumber (v0 v1 : V) : L2.start nmIsNumber [v0, v1] = [some v0, some v1] := rfl
theorem scIsNumber : FnScope nmIsNumber ["thing", "least"] (defScope sIsNumber) := ⟨rfl, rfl, rfl, by decide +kernel, rfl, by decide +kernel, by decide +kernel⟩
abbrev sRoomInit : Stmt := inClass (topS 38) 0
abbrev nmRoomInit : List Str := ["self", "seats", "patience"]
theorem start_RoomInit (v0 v1 v2 : V) : L2.start nmRoomInit [v0, v1, v2] = [some v0, some v1, some v2] := rfl
theorem scRoomInit : FnScope nmRoomInit ["self", "seats", "patience"] (defScope sRoomInit) := ⟨rfl, rfl, rfl, by decide +kernel, rfl, by decide +kernel, by decide +kernel⟩
abbrev sCome : Stmt := inClass (topS 38) 1
abbrev nmCome : List Str := ["self", "name", "wish"]
theorem start_Come (v0 v1 v2 : V) : L2.start nmCome [v0, v1, v2] = [some v0, some v1, some v2] := rfl
theorem scCome : FnScope nmCome ["self", "name", "wish"] (defScope sCome) := ⟨rfl, rfl, rfl, by decide +kernel, rfl, by decide +kernel, by decide +kernel⟩
abbrev sLeave : Stmt := inClass (topS 38) 2
abbrev nmLeave : List Str := ["self", "name"]
theorem start_Leave (v0 v1 : V) : L2.start nmLeave [v0, v1] = [some v0, some v1] := rfl
theorem scLeave : FnScope nmLeave ["self", "name"] (defScope sLeave) := ⟨rfl, rfl, rfl, by decide +kernel, rfl, by decide +kernel, by decide +kernel⟩
abbrev sAsk : Stmt := inClass (topS 38) 3
abbrev nmAsk : List Str := ["self", "name"]
theorem start_Ask (v0 v1 : V) : L2.start nmAsk [v0, v1] = [some v0, some v1] := rfl
theorem scAsk : FnScope nmAsk ["self", "name"] (defScope sAsk) := ⟨rfl, rfl, rfl, by decide +kernel, rfl, by decide +kernel, by decide +kernel⟩
abbrev sEase : Stmt := inClass (topS 38) 4
abbrev nmEase : List Str := ["self", "name"]
theorem start_Ease (v0 v1 : V) : L2.start nmEase [v0, v1] = [some v0, some v1] := rfl
theorem scEase : FnScope nmEase ["self", "name"] (defScope sEase) := ⟨rfl, rfl, rfl, by decide +kernel, rfl, by decide +kernel, by decide +kernel⟩
abbrev sReadersM : Stmt := inClass (topS 38) 5
abbrev nmReadersM : List Str := ["self"]
theorem start_ReadersM (v0 : V) : L2.start nmReadersM [v0] = [some v0] := rfl
theorem scReadersM : FnScope nmReadersM ["self"] (defScope sReadersM) := ⟨rfl, rfl, rfl, by decide +kernel, rfl, by decide +kernel, by decide +kernel⟩
abbrev sWriterM : Stmt := inClass (topS 38) 6
abbrev nmWriterM : List Str := ["self"]
theorem start_WriterM (v0 : V) : L2.start nmWriterM [v0] = [some v0] := rfl
theorem scWriterM : FnScope nmWriterM ["self"] (defScope sWriterM) := ⟨rfl, rfl, rfl, by decide +kernel, rfl, by decide +kernel, by decide +kernel⟩
abbrev sLineM : Stmt := inClass (topS 38) 8
abbrev nmLineM : List Str := ["self", "_", "name", "wish"]
theorem start_LineM (v0 : V) : L2.start nmLineM [v0] = [some v0, none, none, none] := rfl
theorem scLineM : FnScope nmLineM ["self"] (defScope sLineM) := ⟨rfl, rfl, rfl, by decide +kernel, rfl, by decide +kernel, by decide +kernel⟩
abbrev sPassedM : Stmt := inClass (topS 38) 9
abbrev nmPassedM : List Str := ["self", "name"]
theorem start_PassedM (v0 v1 : V) : L2.start nmPassedM [v0, v1] = [some v0, some v1] := rfl
theorem scPassedM : FnScope nmPassedM ["self", "name"] (defScope sPassedM) := ⟨rfl, rfl, rfl, by decide +kernel, rfl, by decide +kernel, by decide +kernel⟩
abbrev sJournalM : Stmt := inClass (topS 38) 10
abbrev nmJournalM : List Str := ["self"]
theorem start_JournalM (v0 : V) : L2.start nmJournalM [v0] = [some v0] := rfl
theorem scJournalM : FnScope nmJournalM ["self"] (defScope sJournalM) := ⟨rfl, rfl, rfl, by decide +kernel, rfl, by decide +kernel, by decide +kernel⟩
abbrev sPlaceM : Stmt := inClass (topS 38) 11
abbrev nmPlaceM : List Str := ["self", "name", "place", "waiting"]
theorem start_PlaceM (v0 v1 : V) : L2.start nmPlaceM [v0, v1] = [some v0, some v1, none, none] := rfl
theorem scPlaceM : FnScope nmPlaceM ["self", "name"] (defScope sPlaceM) := ⟨rfl, rfl, rfl, by decide +kernel, rfl, by decide +kernel, by decide +kernel⟩
abbrev sIsIn : Stmt := inClass (topS 38) 12
abbrev nmIsIn : List Str := ["self", "name"]
theorem start_IsIn (v0 v1 : V) : L2.start nmIsIn [v0, v1] = [some v0, some v1] := rfl
theorem scIsIn : FnScope nmIsIn ["self", "name"] (defScope sIsIn) := ⟨rfl, rfl, rfl, by decide +kernel, rfl, by decide +kernel, by decide +kernel⟩
abbrev sIsKnown : Stmt := inClass (topS 38) 13
abbrev nmIsKnown : List Str := ["self", "name"]
theorem start_IsKnown (v0 v1 : V) : L2.start nmIsKnown [v0, v1] = [some v0, some v1] := rfl
theorem scIsKnown : FnScope nmIsKnown ["self", "name"] (defScope sIsKnown) := ⟨rfl, rfl, rfl, by decide +kernel, rfl, by decide +kernel, by decide +kernel⟩
abbrev sNeedKnown : Stmt := inClass (topS 38) 14
abbrev nmNeedKnown : List Str := ["self", "name"]
theorem start_NeedKnown (v0 v1 : V) : L2.start nmNeedKnown [v0, v1] = [some v0, some v1] := rfl
theorem scNeedKnown : FnScope nmNeedKnown ["self", "name"] (defScope sNeedKnown) := ⟨rfl, rfl, rfl, by decide +kernel, rfl, by decide +kernel, by decide +kernel⟩
abbrev sNeedIn : Stmt := inClass (topS 38) 15
abbrev nmNeedIn : List Str := ["self", "name"]
theorem start_NeedIn (v0 v1 : V) : L2.start nmNeedIn [v0, v1] = [some v0, some v1] := rfl
theorem scNeedIn : FnScope nmNeedIn ["self", "name"] (defScope sNeedIn) := ⟨rfl, rfl, rfl, by decide +kernel, rfl, by decide +kernel, by decide +kernel⟩
abbrev sGoOut : Stmt := inClass (topS 38) 16
abbrev nmGoOut : List Str := ["self", "name"]
theorem start_GoOut (v0 v1 : V) : L2.start nmGoOut [v0, v1] = [some v0, some v1] := rfl
theorem scGoOut : FnScope nmGoOut ["self", "name"] (defScope sGoOut) := ⟨rfl, rfl, rfl, by decide +kernel, rfl, by decide +kernel, by decide +kernel⟩
abbrev sSettle : Stmt := inClass (topS 38) 17
abbrev nmSettle : List Str := ["self", "row", "began", "pair", "name", "wish"]
theorem start_Settle (v0 v1 : V) : L2.start nmSettle [v0, v1] = [some v0, some v1, none, none, none, none] := rfl
theorem scSettle : FnScope nmSettle ["self", "row"] (defScope sSettle) := ⟨rfl, rfl, rfl, by decide +kernel, rfl, by decide +kernel, by decide +kernel⟩
abbrev sBeginNext : Stmt := inClass (topS 38) 18
abbrev nmBeginNext : List Str := ["self", "writes", "place", "name", "wish", "_"]
theorem start_BeginNext (v0 : V) : L2.start nmBeginNext [v0] = [some v0, none, none, none, none, none] := rfl
theorem scBeginNext : FnScope nmBeginNext ["self"] (defScope sBeginNext) := ⟨rfl, rfl, rfl, by decide +kernel, rfl, by decide +kernel, by decide +kernel⟩
abbrev sBeginAsked : Stmt := inClass (topS 38) 19
abbrev nmBeginAsked : List Str := ["self", "name"]
theorem start_BeginAsked (v0 : V) : L2.start nmBeginAsked [v0] = [some v0, none] := rfl
theorem scBeginAsked : FnScope nmBeginAsked ["self"] (defScope sBeginAsked) := ⟨rfl, rfl, rfl, by decide +kernel, rfl, by decide +kernel, by decide +kernel⟩
abbrev sCountPassed : Stmt := inClass (topS 38) 20
abbrev nmCountPassed : List Str := ["self", "place", "ahead", "name", "wish", "passed"]
theorem start_CountPassed (v0 v1 : V) : L2.start nmCountPassed [v0, v1] = [some v0, some v1, none, none, none, none] := rfl
theorem scCountPassed : FnScope nmCountPassed ["self", "place"] (defScope sCountPassed) := ⟨rfl, rfl, rfl, by decide +kernel, rfl, by decide +kernel, by decide +kernel⟩
abbrev sBegun : Stmt := topS 40
abbrev nmBegun : List Str := ["room", "row", "word", "name"]
theorem start_Begun (v0 v1 : V) : L2.start nmBegun [v0, v1] = [some v0, some v1, none, none] := rfl
theorem scBegun : FnScope nmBegun ["room", "row"] (defScope sBegun) := ⟨rfl, rfl, rfl, by decide +kernel, rfl, by decide +kernel, by decide +kernel⟩
abbrev sFirstWrong : Stmt := topS 41
abbrev nmFirstWrong : List Str := ["room", "rows", "due", "met", "place", "row", "name", "wish"]
theorem start_FirstWrong (v0 v1 : V) : L2.start nmFirstWrong [v0, v1] = [some v0, some v1, none, none, none, none, none, none] := rfl
theorem scFirstWrong : FnScope nmFirstWrong ["room", "rows"] (defScope sFirstWrong) := ⟨rfl, rfl, rfl, by decide +kernel, rfl, by decide +kernel, by decide +kernel⟩
abbrev sJudged : Stmt := topS 42
abbrev nmJudged : List Str := ["seats", "patience", "rows"]
theorem start_Judged (v0 v1 v2 : V) : L2.start nmJudged [v0, v1, v2] = [some v0, some v1, some v2] := rfl
theorem scJudged : FnScope nmJudged ["seats", "patience", "rows"] (defScope sJudged) := ⟨rfl, rfl, rfl, by decide +kernel, rfl, by decide +kernel, by decide +kernel⟩
abbrev sRoomOf : Stmt := topS 43
abbrev nmRoomOf : List Str := ["seats", "patience", "rows", "room"]
theorem start_RoomOf (v0 v1 v2 : V) : L2.start nmRoomOf [v0, v1, v2] = [some v0, some v1, some v2, none] := rfl
theorem scRoomOf : FnScope nmRoomOf ["seats", "patience", "rows"] (defScope sRoomOf) := ⟨rfl, rfl, rfl, by decide +kernel, rfl, by decide +kernel, by decide +kernel⟩
abbrev sCell : Stmt := topS 45
abbrev nmCell : List Str := ["_law_script", "_law_k"]
theorem start_Cell (v0 v1 : V) : L2.start nmCell [v0, v1] = [some v0, some v1] := rfl
theorem scCell : FnScope nmCell ["_law_script", "_law_k"] (defScope sCell) := ⟨rfl, rfl, rfl, by decide +kernel, rfl, by decide +kernel, by decide +kernel⟩
abbrev sWhole : Stmt := topS 46
abbrev nmWhole : List Str := ["_law_found"]
theorem start_Whole (v0 : V) : L2.start nmWhole [v0] = [some v0] := rfl
theorem scWhole : FnScope nmWhole ["_law_found"] (defScope sWhole) := ⟨rfl, rfl, rfl, by decide +kernel, rfl, by decide +kernel, by decide +kernel⟩
abbrev sNum : Stmt := topS 47
abbrev nmNum : List Str := ["_law_cell", "_law_least", "_law_way"]
theorem start_Num (v0 v1 : V) : L2.start nmNum [v0, v1] = [some v0, some v1, none] := rfl
theorem scNum : FnScope nmNum ["_law_cell", "_law_least"] (defScope sNum) := ⟨rfl, rfl, rfl, by decide +kernel, rfl, by decide +kernel, by decide +kernel⟩
abbrev sPeople : Stmt := topS 48
abbrev nmPeople : List Str := ["_law_cell", "_law_many", "_law_some", "_law_head", "_law_rest", "_law_k", "_law_way", "_law_left", "_law_right"]
theorem start_People (v0 v1 : V) : L2.start nmPeople [v0, v1] = [some v0, some v1, none, none, none, none, none, none, none] := rfl
theorem scPeople : FnScope nmPeople ["_law_cell", "_law_many"] (defScope sPeople) := ⟨rfl, rfl, rfl, by decide +kernel, rfl, by decide +kernel, by decide +kernel⟩
abbrev sWish : Stmt := topS 49
abbrev nmWish : List Str := ["_law_cell"]
theorem start_Wish (v0 : V) : L2.start nmWish [v0] = [some v0] := rfl
theorem scWish : FnScope nmWish ["_law_cell"] (defScope sWish) := ⟨rfl, rfl, rfl, by decide +kernel, rfl, by decide +kernel, by decide +kernel⟩
abbrev sDeedBy : Stmt := topS 50
abbrev nmDeedBy : List Str := ["_law_cell", "_law_people_here", "_law_inside_here", "_law_waits", "_law_who", "_law_way", "_law_wish"]
theorem start_DeedBy (v0 v1 v2 v3 : V) : L2.start nmDeedBy [v0, v1, v2, v3] = [some v0, some v1, some v2, some v3, none, none, none] := rfl
theorem scDeedBy : FnScope nmDeedBy ["_law_cell", "_law_people_here", "_law_inside_here", "_law_waits"] (defScope sDeedBy) := ⟨rfl, rfl, rfl, by decide +kernel, rfl, by decide +kernel, by decide +kernel⟩
abbrev sKnownF : Stmt := topS 51
abbrev nmKnownF : List Str := ["_law_now", "_law_who", "_law_one"]
theorem start_KnownF (v0 v1 : V) : L2.start nmKnownF [v0, v1] = [some v0, some v1, none] := rfl
theorem scKnownF : FnScope nmKnownF ["_law_now", "_law_who"] (defScope sKnownF) := ⟨rfl, rfl, rfl, by decide +kernel, rfl, by decide +kernel, by decide +kernel⟩
abbrev sRefused : Stmt := topS 52
abbrev nmRefused : List Str := ["_law_now", "_law_deed"]
theorem start_Refused (v0 v1 : V) : L2.start nmRefused [v0, v1] = [some v0, some v1] := rfl
theorem scRefused : FnScope nmRefused ["_law_now", "_law_deed"] (defScope sRefused) := ⟨rfl, rfl, rfl, by decide +kernel, rfl, by decide +kernel, by decide +kernel⟩
abbrev sDone : Stmt := topS 53
abbrev nmDone : List Str := ["_law_now", "_law_deed", "_law_new", "_law_who", "_law_one"]
theorem start_Done (v0 v1 : V) : L2.start nmDone [v0, v1] = [some v0, some v1, none, none, none] := rfl
theorem scDone : FnScope nmDone ["_law_now", "_law_deed"] (defScope sDone) := ⟨rfl, rfl, rfl, by decide +kernel, rfl, by decide +kernel, by decide +kernel⟩
abbrev sBegan : Stmt := topS 54
abbrev nmBegan : List Str := ["_law_now", "_law_place", "_law_new", "_law_one", "_law_ahead", "_law_other"]
theorem start_Began (v0 v1 : V) : L2.start nmBegan [v0, v1] = [some v0, some v1, none, none, none, none] := rfl
theorem scBegan : FnScope nmBegan ["_law_now", "_law_place"] (defScope sBegan) := ⟨rfl, rfl, rfl, by decide +kernel, rfl, by decide +kernel, by decide +kernel⟩
abbrev sFresh : Stmt := topS 55
abbrev nmFresh : List Str := []
theorem start_Fresh : L2.start nmFresh [] = [] := rfl
theorem scFresh : FnScope nmFresh [] (defScope sFresh) := ⟨rfl, rfl, rfl, by decide +kernel, rfl, by decide +kernel, by decide +kernel⟩
abbrev sInside : Stmt := topS 56
abbrev nmInside : List Str := ["_law_now"]
theorem start_Inside (v0 : V) : L2.start nmInside [v0] = [some v0] := rfl
theorem scInside : FnScope nmInside ["_law_now"] (defScope sInside) := ⟨rfl, rfl, rfl, by decide +kernel, rfl, by decide +kernel, by decide +kernel⟩
abbrev sSeats : Stmt := topS 57
abbrev nmSeats : List Str := ["_law_script", "_law_cell"]
theorem start_Seats (v0 : V) : L2.start nmSeats [v0] = [some v0, none] := rfl
theorem scSeats : FnScope nmSeats ["_law_script"] (defScope sSeats) := ⟨rfl, rfl, rfl, by decide +kernel, rfl, by decide +kernel, by decide +kernel⟩
abbrev sPatience : Stmt := topS 58
abbrev nmPatience : List Str := ["_law_script", "_law_cell"]
theorem start_Patience (v0 : V) : L2.start nmPatience [v0] = [some v0, none] := rfl
theorem scPatience : FnScope nmPatience ["_law_script"] (defScope sPatience) := ⟨rfl, rfl, rfl, by decide +kernel, rfl, by decide +kernel, by decide +kernel⟩
abbrev sCrowd : Stmt := topS 59
abbrev nmCrowd : List Str := ["_law_script", "_law_many", "_law_people_here", "_law_way", "_law_large", "_law_size", "_law_deeds", "_law_k", "_law_one"]
theorem start_Crowd (v0 v1 : V) : L2.start nmCrowd [v0, v1] = [some v0, some v1, none, none, none, none, none, none, none] := rfl
theorem scCrowd : FnScope nmCrowd ["_law_script", "_law_many"] (defScope sCrowd) := ⟨rfl, rfl, rfl, by decide +kernel, rfl, by decide +kernel, by decide +kernel⟩
abbrev sNames : Stmt := topS 60
abbrev nmNames : List Str := ["_law_script", "_law_many", "_law_way", "_law_people_here"]
theorem start_Names (v0 v1 : V) : L2.start nmNames [v0, v1] = [some v0, some v1, none, none] := rfl
theorem scNames : FnScope nmNames ["_law_script", "_law_many"] (defScope sNames) := ⟨rfl, rfl, rfl, by decide +kernel, rfl, by decide +kernel, by decide +kernel⟩
abbrev sNext : Stmt := topS 61
abbrev nmNext : List Str := ["_law_now", "_law_seats_here", "_law_patience_here", "_law_reading", "_law_queue", "_law_place"]
theorem start_Next (v0 v1 v2 : V) : L2.start nmNext [v0, v1, v2] = [some v0, some v1, some v2, none, none, none] := rfl
theorem scNext : FnScope nmNext ["_law_now", "_law_seats_here", "_law_patience_here"] (defScope sNext) := ⟨rfl, rfl, rfl, by decide +kernel, rfl, by decide +kernel, by decide +kernel⟩
abbrev sPair : Stmt := topS 62
abbrev nmPair : List Str := ["_law_now", "_law_place"]
theorem start_Pair (v0 v1 : V) : L2.start nmPair [v0, v1] = [some v0, some v1] := rfl
theorem scPair : FnScope nmPair ["_law_now", "_law_place"] (defScope sPair) := ⟨rfl, rfl, rfl, by decide +kernel, rfl, by decide +kernel, by decide +kernel⟩
abbrev sRowF : Stmt := topS 63
abbrev nmRowF : List Str := ["_law_deed"]
theorem start_RowF (v0 : V) : L2.start nmRowF [v0] = [some v0] := rfl
theorem scRowF : FnScope nmRowF ["_law_deed"] (defScope sRowF) := ⟨rfl, rfl, rfl, by decide +kernel, rfl, by decide +kernel, by decide +kernel⟩
abbrev sNameF : Stmt := topS 64
abbrev nmNameF : List Str := ["_law_thing", "_law_some", "_law_sign"]
theorem start_NameF (v0 : V) : L2.start nmNameF [v0] = [some v0, none, none] := rfl
theorem scNameF : FnScope nmNameF ["_law_thing"] (defScope sNameF) := ⟨rfl, rfl, rfl, by decide +kernel, rfl, by decide +kernel, by decide +kernel⟩
abbrev sFormed : Stmt := topS 65
abbrev nmFormed : List Str := ["_law_row_here", "_law_word"]
theorem start_Formed (v0 : V) : L2.start nmFormed [v0] = [some v0, none] := rfl
theorem scFormed : FnScope nmFormed ["_law_row_here"] (defScope sFormed) := ⟨rfl, rfl, rfl, by decide +kernel, rfl, by decide +kernel, by decide +kernel⟩
abbrev sJournalF : Stmt := topS 66
abbrev nmJournalF : List Str := ["_law_script", "_law_seats_here", "_law_patience_here", "_law_many", "_law_people_here", "_law_deeds", "_law_now", "_law_rows", "_law_k", "_law_deed", "_law_waits", "_law_place", "_law_one"]
theorem start_JournalF (v0 v1 v2 : V) : L2.start nmJournalF [v0, v1, v2] = [some v0, some v1, some v2, none, none, none, none, none, none, none, none, none, none] := rfl
theorem scJournalF : FnScope nmJournalF ["_law_script", "_law_seats_here", "_law_patience_here"] (defScope sJournalF) := ⟨rfl, rfl, rfl, by decide +kernel, rfl, by decide +kernel, by decide +kernel⟩
abbrev sOtherRow : Stmt := topS 67
abbrev nmOtherRow : List Str := ["_law_row_here", "_law_way", "_law_cell", "_law_ahead", "_law_who", "_law_some"]
theorem start_OtherRow (v0 v1 v2 v3 : V) : L2.start nmOtherRow [v0, v1, v2, v3] = [some v0, some v1, some v2, some v3, none, none] := rfl
theorem scOtherRow : FnScope nmOtherRow ["_law_row_here", "_law_way", "_law_cell", "_law_ahead"] (defScope sOtherRow) := ⟨rfl, rfl, rfl, by decide +kernel, rfl, by decide +kernel, by decide +kernel⟩
abbrev sMisspelt : Stmt := topS 68
abbrev nmMisspelt : List Str := ["_law_rows", "_law_more", "_law_places", "_law_writers", "_law_place", "_law_words", "_law_k"]
theorem start_Misspelt (v0 v1 : V) : L2.start nmMisspelt [v0, v1] = [some v0, some v1, none, none, none, none, none] := rfl
theorem scMisspelt : FnScope nmMisspelt ["_law_rows", "_law_more"] (defScope sMisspelt) := ⟨rfl, rfl, rfl, by decide +kernel, rfl, by decide +kernel, by decide +kernel⟩
abbrev sSpoilt : Stmt := topS 69
abbrev nmSpoilt : List Str := ["_law_rows", "_law_cell", "_law_more", "_law_way", "_law_place", "_law_behind", "_law_who", "_law_odd", "_law_one"]
theorem start_Spoilt (v0 v1 v2 : V) : L2.start nmSpoilt [v0, v1, v2] = [some v0, some v1, some v2, none, none, none, none, none, none] := rfl
theorem scSpoilt : FnScope nmSpoilt ["_law_rows", "_law_cell", "_law_more"] (defScope sSpoilt) := ⟨rfl, rfl, rfl, by decide +kernel, rfl, by decide +kernel, by decide +kernel⟩
abbrev sGoneF : Stmt := topS 70
abbrev nmGoneF : List Str := ["_law_rows", "_law_seats_here", "_law_patience_here", "_law_now", "_law_k", "_law_place"]
theorem start_GoneF (v0 v1 v2 : V) : L2.start nmGoneF [v0, v1, v2] = [some v0, some v1, some v2, none, none, none] := rfl
theorem scGoneF : FnScope nmGoneF ["_law_rows", "_law_seats_here", "_law_patience_here"] (defScope sGoneF) := ⟨rfl, rfl, rfl, by decide +kernel, rfl, by decide +kernel, by decide +kernel⟩
abbrev sRefuses : Stmt := topS 71
abbrev nmRefuses : List Str := ["_law_seats_here", "_law_patience_here", "_law_rows", "_law_refused_here"]
theorem start_Refuses (v0 v1 v2 : V) : L2.start nmRefuses [v0, v1, v2] = [some v0, some v1, some v2, none] := rfl
theorem scRefuses : FnScope nmRefuses ["_law_seats_here", "_law_patience_here", "_law_rows"] (defScope sRefuses) := ⟨rfl, rfl, rfl, by decide +kernel, rfl, by decide +kernel, by decide +kernel⟩
abbrev sToldF : Stmt := topS 72
abbrev nmToldF : List Str := ["_law_found", "_law_due"]
theorem start_ToldF (v0 v1 : V) : L2.start nmToldF [v0, v1] = [some v0, some v1] := rfl
theorem scToldF : FnScope nmToldF ["_law_found", "_law_due"] (defScope sToldF) := ⟨rfl, rfl, rfl, by decide +kernel, rfl, by decide +kernel, by decide +kernel⟩
abbrev sRefusedRows : Stmt := topS 73
abbrev nmRefusedRows : List Str := ["_law_seats_here", "_law_patience_here", "_law_rows", "_law_handed", "e"]
theorem start_RefusedRows (v0 v1 v2 : V) : L2.start nmRefusedRows [v0, v1, v2] = [some v0, some v1, some v2, none, none] := rfl
theorem scRefusedRows : FnScope nmRefusedRows ["_law_seats_here", "_law_patience_here", "_law_rows"] (defScope sRefusedRows) := ⟨rfl, rfl, rfl, by decide +kernel, rfl, by decide +kernel, by decide +kernel⟩
abbrev sLaw : Stmt := topS 74
abbrev nmLaw : List Str := ["_law_script", "_law_seats_here", "_law_patience_here", "_law_rows", "_law_none", "_law_due", "_law_handed", "_law_found"]
theorem start_Law (v0 : V) : L2.start nmLaw [v0] = [some v0, none, none, none, none, none, none, none] := rfl
theorem scLaw : FnScope nmLaw ["_law_script"] (defScope sLaw) := ⟨rfl, rfl, rfl, by decide +kernel, rfl, by decide +kernel, by decide +kernel⟩
/-- what is raised, with what each is one of; what is asked of it -/
def chains : List (Str × List Str) := [("BadNumber", ["BadNumber", "RoomError", "ValueError"]), ("BadName", ["BadName", "RoomError", "ValueError"]), ("BadWish", ["BadWish", "RoomError", "ValueError"]), ("Known", ["Known", "RoomError", "ValueError"]), ("Writes", ["Writes", "RoomError", "ValueError"]), ("Asked", ["Asked", "RoomError", "ValueError"]), ("Reads", ["Reads", "RoomError", "ValueError"]), ("Inside", ["Inside", "RoomError", "ValueError"]), ("Stranger", ["Stranger", "RoomError", "ValueError"]), ("Outside", ["Outside", "RoomError", "ValueError"]), ("BadJournal", ["BadJournal", "RoomError", "ValueError"])]
def askedOf : List Str := ["Asked", "BadName", "BadNumber", "BadText", "BadWish", "Inside", "Known", "Outside", "Reads", "Stranger", "Writes", "ValueError", "BadJournal"]
def kinds : List (Str × Str × Bool) := chains.flatMap fun p => askedOf.map fun y => (p.1, y, decide (y ∈ p.2))
def raised : List Str := ["BadNumber", "BadName", "BadWish", "Known", "Writes", "Asked", "Reads", "Inside", "Stranger", "Outside", "BadJournal"]
def clsV (K : PySem.W.Frag) (y : Str) : Value := if y = "ValueError" then .type "ValueError" else .ref (He.ga K y)
def excB (K : PySem.W.Frag) (D : Addr) : Bool := decide (PySem.W.findIn K (.ref D) "__getattribute__" = some (some (.builtin "BaseException.__getattribute__"))) && (decide (PySem.W.findIn K (.ref D) "__getattr__" = some none) && (decide (PySem.W.subIn K (.ref D) (.type "BaseException") = some true) &&
  (PySem.W.hasDictIn K D && (decide (PySem.W.findIn K (.ref D) "__class__" = some (some (.builtin "object.__class__"))) && (decide (PySem.W.specialIn K (.builtin "object.__class__") "__get__" = some (some (.builtin "getset_descriptor.__get__"))) &&
  (decide (PySem.W.takesIn K (.builtin "object.__class__") = some true) && decide (PySem.W.mroIn K D (.type "object") = some true)))))))
theorem excB_ok {K : PySem.W.Frag} {D : Addr} (h : excB K D = true) : ExcC K D := by
  unfold excB at h
  simp only [Bool.and_eq_true, decide_eq_true_eq] at h
  exact ⟨h.1, h.2.1, h.2.2.1, h.2.2.2.1, h.2.2.2.2.1, h.2.2.2.2.2.1, h.2.2.2.2.2.2.1, h.2.2.2.2.2.2.2⟩
def exB (K : PySem.W.Frag) : Bool := (kinds.all fun r => decide (PySem.W.kitOne K (.ref (He.ga K r.1)) (clsV K r.2.1) = some r.2.2)) && raised.all fun x => excB K (He.ga K x)
theorem exB_kit {K : PySem.W.Frag} (h : exB K = true) {x y : Str} {b : Bool} (m : (x, y, b) ∈ kinds) : PySem.W.kitOne K (.ref (He.ga K x)) (clsV K y) = some b := of_decide_eq_true (List.all_eq_true.mp (Bool.and_eq_true_iff.mp h).1 _ m)
theorem exB_exc {K : PySem.W.Frag} (h : exB K = true) {x : Str} (m : x ∈ raised) : ExcC K (He.ga K x) := excB_ok (List.all_eq_true.mp (Bool.and_eq_true_iff.mp h).2 _ m)
structure Top (K : PySem.W.Frag) (mg : Str → Option Value) where
  f_IsName : Addr
  fd_IsName : FuncData
  F_IsName : Fun K "is_name" "is_name" sIsName f_IsName fd_IsName
  B_IsName : Binds K fd_IsName ["thing"] []
  g_IsName : mg "is_name" = some (.ref f_IsName)
  co_IsName : Addr
  ta_IsName : Addr
  cd_IsName : fd_IsName.code = .ref co_IsName
  f_IsWish : Addr
  fd_IsWish : FuncData
  F_IsWish : Fun K "is_wish" "is_wish" sIsWish f_IsWish fd_IsWish
  B_IsWish : Binds K fd_IsWish ["thing"] []
  g_IsWish : mg "is_wish" = some (.ref f_IsWish)
  f_Can : Addr
  fd_Can : FuncData
  F_Can : Fun K "can_begin" "can_begin" sCan f_Can fd_Can
  B_Can : Binds K fd_Can ["seats", "reading", "writes", "wish"] []
  g_Can : mg "can_begin" = some (.ref f_Can)
  f_First : Addr
  fd_First : FuncData
  F_First : Fun K "first_reader" "first_reader" sFirst f_First fd_First
  B_First : Binds K fd_First ["line", "patience"] []
  g_First : mg "first_reader" = some (.ref f_First)
  f_NextP : Addr
  fd_NextP : FuncData
  F_NextP : Fun K "next_place" "next_place" sNextP f_NextP fd_NextP
  B_NextP : Binds K fd_NextP ["line", "seats", "patience", "reading", "writes"] []
  g_NextP : mg "next_place" = some (.ref f_NextP)
  f_IsWord : Addr
  fd_IsWord : FuncData
  F_IsWord : Fun K "is_word" "is_word" sIsWord f_IsWord fd_IsWord
  B_IsWord : Binds K fd_IsWord ["thing", "words"] []
  g_IsWord : mg "is_word" = some (.ref f_IsWord)
  f_IsRow : Addr
  fd_IsRow : FuncData
  F_IsRow : Fun K "is_row" "is_row" sIsRow f_IsRow fd_IsRow
  B_IsRow : Binds K fd_IsRow ["thing"] []
  g_IsRow : mg "is_row" = some (.ref f_IsRow)
  f_IsNumber : Addr
  fd_IsNumber : FuncData
  F_IsNumber : Fun K "is_number" "is_number" sIsNumber f_IsNumber fd_IsNumber
  B_IsNumber : Binds K fd_IsNumber ["thing", "least"] []
  g_IsNumber : mg "is_number" = some (.ref f_IsNumber)
  f_RoomInit : Addr
  fd_RoomInit : FuncData
  F_RoomInit : Fun K "__init__" "Room.__init__" sRoomInit f_RoomInit fd_RoomInit
  B_RoomInit : Binds K fd_RoomInit ["self", "seats", "patience"] []
  K_Room : Mk K (He.ga K "Room") f_RoomInit
  f_Come : Addr
  fd_Come : FuncData
  F_Come : Fun K "come" "Room.come" sCome f_Come fd_Come
  B_Come : Binds K fd_Come ["self", "name", "wish"] []
  M_Come : Meth K (He.ga K "Room") "come" f_Come
  f_Leave : Addr
  fd_Leave : FuncData
  F_Leave : Fun K "leave" "Room.leave" sLeave f_Leave fd_Leave
  B_Leave : Binds K fd_Leave ["self", "name"] []
  M_Leave : Meth K (He.ga K "Room") "leave" f_Leave
  f_Ask : Addr
  fd_Ask : FuncData
  F_Ask : Fun K "ask" "Room.ask" sAsk f_Ask fd_Ask
  B_Ask : Binds K fd_Ask ["self", "name"] []
  M_Ask : Meth K (He.ga K "Room") "ask" f_Ask
  f_Ease : Addr
  fd_Ease : FuncData
  F_Ease : Fun K "ease" "Room.ease" sEase f_Ease fd_Ease
  B_Ease : Binds K fd_Ease ["self", "name"] []
  M_Ease : Meth K (He.ga K "Room") "ease" f_Ease
  f_ReadersM : Addr
  fd_ReadersM : FuncData
  F_ReadersM : Fun K "readers" "Room.readers" sReadersM f_ReadersM fd_ReadersM
  B_ReadersM : Binds K fd_ReadersM ["self"] []
  M_ReadersM : Meth K (He.ga K "Room") "readers" f_ReadersM
  f_WriterM : Addr
  fd_WriterM : FuncData
  F_WriterM : Fun K "writer" "Room.writer" sWriterM f_WriterM fd_WriterM
  B_WriterM : Binds K fd_WriterM ["self"] []
  M_WriterM : Meth K (He.ga K "Room") "writer" f_WriterM
  f_LineM : Addr
  fd_LineM : FuncData
  F_LineM : Fun K "line" "Room.line" sLineM f_LineM fd_LineM
  B_LineM : Binds K fd_LineM ["self"] []
  M_LineM : Meth K (He.ga K "Room") "line" f_LineM
  f_PassedM : Addr
  fd_PassedM : FuncData
  F_PassedM : Fun K "passed" "Room.passed" sPassedM f_PassedM fd_PassedM
  B_PassedM : Binds K fd_PassedM ["self", "name"] []
  M_PassedM : Meth K (He.ga K "Room") "passed" f_PassedM
  f_JournalM : Addr
  fd_JournalM : FuncData
  F_JournalM : Fun K "journal" "Room.journal" sJournalM f_JournalM fd_JournalM
  B_JournalM : Binds K fd_JournalM ["self"] []
  M_JournalM : Meth K (He.ga K "Room") "journal" f_JournalM
  f_PlaceM : Addr
  fd_PlaceM : FuncData
  F_PlaceM : Fun K "_place" "Room._place" sPlaceM f_PlaceM fd_PlaceM
  B_PlaceM : Binds K fd_PlaceM ["self", "name"] []
  M_PlaceM : Meth K (He.ga K "Room") "_place" f_PlaceM
  f_IsIn : Addr
  fd_IsIn : FuncData
  F_IsIn : Fun K "_is_inside" "Room._is_inside" sIsIn f_IsIn fd_IsIn
  B_IsIn : Binds K fd_IsIn ["self", "name"] []
  M_IsIn : Meth K (He.ga K "Room") "_is_inside" f_IsIn
  f_IsKnown : Addr
  fd_IsKnown : FuncData
  F_IsKnown : Fun K "_is_known" "Room._is_known" sIsKnown f_IsKnown fd_IsKnown
  B_IsKnown : Binds K fd_IsKnown ["self", "name"] []
  M_IsKnown : Meth K (He.ga K "Room") "_is_known" f_IsKnown
  f_NeedKnown : Addr
  fd_NeedKnown : FuncData
  F_NeedKnown : Fun K "_need_known" "Room._need_known" sNeedKnown f_NeedKnown fd_NeedKnown
  B_NeedKnown : Binds K fd_NeedKnown ["self", "name"] []
  M_NeedKnown : Meth K (He.ga K "Room") "_need_known" f_NeedKnown
  f_NeedIn : Addr
  fd_NeedIn : FuncData
  F_NeedIn : Fun K "_need_inside" "Room._need_inside" sNeedIn f_NeedIn fd_NeedIn
  B_NeedIn : Binds K fd_NeedIn ["self", "name"] []
  M_NeedIn : Meth K (He.ga K "Room") "_need_inside" f_NeedIn
  f_GoOut : Addr
  fd_GoOut : FuncData
  F_GoOut : Fun K "_go_out" "Room._go_out" sGoOut f_GoOut fd_GoOut
  B_GoOut : Binds K fd_GoOut ["self", "name"] []
  M_GoOut : Meth K (He.ga K "Room") "_go_out" f_GoOut
  f_Settle : Addr
  fd_Settle : FuncData
  F_Settle : Fun K "_settle" "Room._settle" sSettle f_Settle fd_Settle
  B_Settle : Binds K fd_Settle ["self", "row"] []
  M_Settle : Meth K (He.ga K "Room") "_settle" f_Settle
  f_BeginNext : Addr
  fd_BeginNext : FuncData
  F_BeginNext : Fun K "_begin_next" "Room._begin_next" sBeginNext f_BeginNext fd_BeginNext
  B_BeginNext : Binds K fd_BeginNext ["self"] []
  M_BeginNext : Meth K (He.ga K "Room") "_begin_next" f_BeginNext
  f_BeginAsked : Addr
  fd_BeginAsked : FuncData
  F_BeginAsked : Fun K "_begin_asked" "Room._begin_asked" sBeginAsked f_BeginAsked fd_BeginAsked
  B_BeginAsked : Binds K fd_BeginAsked ["self"] []
  M_BeginAsked : Meth K (He.ga K "Room") "_begin_asked" f_BeginAsked
  f_CountPassed : Addr
  fd_CountPassed : FuncData
  F_CountPassed : Fun K "_count_passed" "Room._count_passed" sCountPassed f_CountPassed fd_CountPassed
  B_CountPassed : Binds K fd_CountPassed ["self", "place"] []
  M_CountPassed : Meth K (He.ga K "Room") "_count_passed" f_CountPassed
  f_Begun : Addr
  fd_Begun : FuncData
  F_Begun : Fun K "begun" "begun" sBegun f_Begun fd_Begun
  B_Begun : Binds K fd_Begun ["room", "row"] []
  g_Begun : mg "begun" = some (.ref f_Begun)
  f_FirstWrong : Addr
  fd_FirstWrong : FuncData
  F_FirstWrong : Fun K "first_wrong" "first_wrong" sFirstWrong f_FirstWrong fd_FirstWrong
  B_FirstWrong : Binds K fd_FirstWrong ["room", "rows"] []
  g_FirstWrong : mg "first_wrong" = some (.ref f_FirstWrong)
  f_Judged : Addr
  fd_Judged : FuncData
  F_Judged : Fun K "judged" "judged" sJudged f_Judged fd_Judged
  B_Judged : Binds K fd_Judged ["seats", "patience", "rows"] []
  g_Judged : mg "judged" = some (.ref f_Judged)
  f_RoomOf : Addr
  fd_RoomOf : FuncData
  F_RoomOf : Fun K "room_of" "room_of" sRoomOf f_RoomOf fd_RoomOf
  B_RoomOf : Binds K fd_RoomOf ["seats", "patience", "rows"] []
  g_RoomOf : mg "room_of" = some (.ref f_RoomOf)
  f_Cell : Addr
  fd_Cell : FuncData
  F_Cell : Fun K "_law_cell_at" "_law_cell_at" sCell f_Cell fd_Cell
  B_Cell : Binds K fd_Cell ["_law_script", "_law_k"] []
  g_Cell : mg "_law_cell_at" = some (.ref f_Cell)
  f_Whole : Addr
  fd_Whole : FuncData
  F_Whole : Fun K "_law_whole" "_law_whole" sWhole f_Whole fd_Whole
  B_Whole : Binds K fd_Whole ["_law_found"] []
  g_Whole : mg "_law_whole" = some (.ref f_Whole)
  f_Num : Addr
  fd_Num : FuncData
  F_Num : Fun K "_law_number_by" "_law_number_by" sNum f_Num fd_Num
  B_Num : Binds K fd_Num ["_law_cell", "_law_least"] []
  g_Num : mg "_law_number_by" = some (.ref f_Num)
  f_People : Addr
  fd_People : FuncData
  F_People : Fun K "_law_people" "_law_people" sPeople f_People fd_People
  B_People : Binds K fd_People ["_law_cell", "_law_many"] []
  g_People : mg "_law_people" = some (.ref f_People)
  f_Wish : Addr
  fd_Wish : FuncData
  F_Wish : Fun K "_law_wish_by" "_law_wish_by" sWish f_Wish fd_Wish
  B_Wish : Binds K fd_Wish ["_law_cell"] []
  g_Wish : mg "_law_wish_by" = some (.ref f_Wish)
  f_DeedBy : Addr
  fd_DeedBy : FuncData
  F_DeedBy : Fun K "_law_deed_by" "_law_deed_by" sDeedBy f_DeedBy fd_DeedBy
  B_DeedBy : Binds K fd_DeedBy ["_law_cell", "_law_people_here", "_law_inside_here", "_law_waits"] []
  g_DeedBy : mg "_law_deed_by" = some (.ref f_DeedBy)
  f_KnownF : Addr
  fd_KnownF : FuncData
  F_KnownF : Fun K "_law_known" "_law_known" sKnownF f_KnownF fd_KnownF
  B_KnownF : Binds K fd_KnownF ["_law_now", "_law_who"] []
  g_KnownF : mg "_law_known" = some (.ref f_KnownF)
  f_Refused : Addr
  fd_Refused : FuncData
  F_Refused : Fun K "_law_refused" "_law_refused" sRefused f_Refused fd_Refused
  B_Refused : Binds K fd_Refused ["_law_now", "_law_deed"] []
  g_Refused : mg "_law_refused" = some (.ref f_Refused)
  f_Done : Addr
  fd_Done : FuncData
  F_Done : Fun K "_law_deed_done" "_law_deed_done" sDone f_Done fd_Done
  B_Done : Binds K fd_Done ["_law_now", "_law_deed"] []
  g_Done : mg "_law_deed_done" = some (.ref f_Done)
  f_Began : Addr
  fd_Began : FuncData
  F_Began : Fun K "_law_began" "_law_began" sBegan f_Began fd_Began
  B_Began : Binds K fd_Began ["_law_now", "_law_place"] []
  g_Began : mg "_law_began" = some (.ref f_Began)
  f_Fresh : Addr
  fd_Fresh : FuncData
  F_Fresh : Fun K "_law_fresh" "_law_fresh" sFresh f_Fresh fd_Fresh
  B_Fresh : Binds K fd_Fresh [] []
  g_Fresh : mg "_law_fresh" = some (.ref f_Fresh)
  f_Inside : Addr
  fd_Inside : FuncData
  F_Inside : Fun K "_law_inside" "_law_inside" sInside f_Inside fd_Inside
  B_Inside : Binds K fd_Inside ["_law_now"] []
  g_Inside : mg "_law_inside" = some (.ref f_Inside)
  f_Seats : Addr
  fd_Seats : FuncData
  F_Seats : Fun K "_law_seats" "_law_seats" sSeats f_Seats fd_Seats
  B_Seats : Binds K fd_Seats ["_law_script"] []
  g_Seats : mg "_law_seats" = some (.ref f_Seats)
  f_Patience : Addr
  fd_Patience : FuncData
  F_Patience : Fun K "_law_patience" "_law_patience" sPatience f_Patience fd_Patience
  B_Patience : Binds K fd_Patience ["_law_script"] []
  g_Patience : mg "_law_patience" = some (.ref f_Patience)
  f_Crowd : Addr
  fd_Crowd : FuncData
  F_Crowd : Fun K "_law_crowd" "_law_crowd" sCrowd f_Crowd fd_Crowd
  B_Crowd : Binds K fd_Crowd ["_law_script", "_law_many"] []
  g_Crowd : mg "_law_crowd" = some (.ref f_Crowd)
  f_Names : Addr
  fd_Names : FuncData
  F_Names : Fun K "_law_names" "_law_names" sNames f_Names fd_Names
  B_Names : Binds K fd_Names ["_law_script", "_law_many"] []
  g_Names : mg "_law_names" = some (.ref f_Names)
  f_Next : Addr
  fd_Next : FuncData
  F_Next : Fun K "_law_next" "_law_next" sNext f_Next fd_Next
  B_Next : Binds K fd_Next ["_law_now", "_law_seats_here", "_law_patience_here"] []
  g_Next : mg "_law_next" = some (.ref f_Next)
  f_Pair : Addr
  fd_Pair : FuncData
  F_Pair : Fun K "_law_pair" "_law_pair" sPair f_Pair fd_Pair
  B_Pair : Binds K fd_Pair ["_law_now", "_law_place"] []
  g_Pair : mg "_law_pair" = some (.ref f_Pair)
  f_RowF : Addr
  fd_RowF : FuncData
  F_RowF : Fun K "_law_row" "_law_row" sRowF f_RowF fd_RowF
  B_RowF : Binds K fd_RowF ["_law_deed"] []
  g_RowF : mg "_law_row" = some (.ref f_RowF)
  f_NameF : Addr
  fd_NameF : FuncData
  F_NameF : Fun K "_law_name" "_law_name" sNameF f_NameF fd_NameF
  B_NameF : Binds K fd_NameF ["_law_thing"] []
  g_NameF : mg "_law_name" = some (.ref f_NameF)
  f_Formed : Addr
  fd_Formed : FuncData
  F_Formed : Fun K "_law_formed" "_law_formed" sFormed f_Formed fd_Formed
  B_Formed : Binds K fd_Formed ["_law_row_here"] []
  g_Formed : mg "_law_formed" = some (.ref f_Formed)
  f_JournalF : Addr
  fd_JournalF : FuncData
  F_JournalF : Fun K "_law_journal" "_law_journal" sJournalF f_JournalF fd_JournalF
  B_JournalF : Binds K fd_JournalF ["_law_script", "_law_seats_here", "_law_patience_here"] []
  g_JournalF : mg "_law_journal" = some (.ref f_JournalF)
  f_OtherRow : Addr
  fd_OtherRow : FuncData
  F_OtherRow : Fun K "_law_other_row" "_law_other_row" sOtherRow f_OtherRow fd_OtherRow
  B_OtherRow : Binds K fd_OtherRow ["_law_row_here", "_law_way", "_law_cell", "_law_ahead"] []
  g_OtherRow : mg "_law_other_row" = some (.ref f_OtherRow)
  f_Misspelt : Addr
  fd_Misspelt : FuncData
  F_Misspelt : Fun K "_law_misspelt" "_law_misspelt" sMisspelt f_Misspelt fd_Misspelt
  B_Misspelt : Binds K fd_Misspelt ["_law_rows", "_law_more"] []
  g_Misspelt : mg "_law_misspelt" = some (.ref f_Misspelt)
  f_Spoilt : Addr
  fd_Spoilt : FuncData
  F_Spoilt : Fun K "_law_spoilt" "_law_spoilt" sSpoilt f_Spoilt fd_Spoilt
  B_Spoilt : Binds K fd_Spoilt ["_law_rows", "_law_cell", "_law_more"] []
  g_Spoilt : mg "_law_spoilt" = some (.ref f_Spoilt)
  f_GoneF : Addr
  fd_GoneF : FuncData
  F_GoneF : Fun K "_law_gone" "_law_gone" sGoneF f_GoneF fd_GoneF
  B_GoneF : Binds K fd_GoneF ["_law_rows", "_law_seats_here", "_law_patience_here"] []
  g_GoneF : mg "_law_gone" = some (.ref f_GoneF)
  f_Refuses : Addr
  fd_Refuses : FuncData
  F_Refuses : Fun K "_law_refuses" "_law_refuses" sRefuses f_Refuses fd_Refuses
  B_Refuses : Binds K fd_Refuses ["_law_seats_here", "_law_patience_here", "_law_rows"] []
  g_Refuses : mg "_law_refuses" = some (.ref f_Refuses)
  f_ToldF : Addr
  fd_ToldF : FuncData
  F_ToldF : Fun K "_law_told" "_law_told" sToldF f_ToldF fd_ToldF
  B_ToldF : Binds K fd_ToldF ["_law_found", "_law_due"] []
  g_ToldF : mg "_law_told" = some (.ref f_ToldF)
  f_RefusedRows : Addr
  fd_RefusedRows : FuncData
  F_RefusedRows : Fun K "_law_refused_rows" "_law_refused_rows" sRefusedRows f_RefusedRows fd_RefusedRows
  B_RefusedRows : Binds K fd_RefusedRows ["_law_seats_here", "_law_patience_here", "_law_rows"] []
  g_RefusedRows : mg "_law_refused_rows" = some (.ref f_RefusedRows)
  f_Law : Addr
  fd_Law : FuncData
  F_Law : Fun K "law" "law" sLaw f_Law fd_Law
  B_Law : Binds K fd_Law ["_law_script"] []
  g_Law : mg "law" = some (.ref f_Law)
  gc_Room : mg "Room" = some (.ref (He.ga K "Room"))
  cl_Room : Cls K (He.ga K "Room")
  n_Room_seats : NoAttr K (He.ga K "Room") "seats"
  n_Room_patience : NoAttr K (He.ga K "Room") "patience"
  n_Room__readers : NoAttr K (He.ga K "Room") "_readers"
  n_Room__writer : NoAttr K (He.ga K "Room") "_writer"
  n_Room__asker : NoAttr K (He.ga K "Room") "_asker"
  n_Room__line : NoAttr K (He.ga K "Room") "_line"
  n_Room__rows : NoAttr K (He.ga K "Room") "_rows"
  gc_BadNumber : mg "BadNumber" = some (.ref (He.ga K "BadNumber"))
  gc_BadName : mg "BadName" = some (.ref (He.ga K "BadName"))
  gc_BadWish : mg "BadWish" = some (.ref (He.ga K "BadWish"))
  gc_Known : mg "Known" = some (.ref (He.ga K "Known"))
  gc_Writes : mg "Writes" = some (.ref (He.ga K "Writes"))
  gc_Asked : mg "Asked" = some (.ref (He.ga K "Asked"))
  gc_Reads : mg "Reads" = some (.ref (He.ga K "Reads"))
  gc_Inside : mg "Inside" = some (.ref (He.ga K "Inside"))
  gc_Stranger : mg "Stranger" = some (.ref (He.ga K "Stranger"))
  gc_Outside : mg "Outside" = some (.ref (He.ga K "Outside"))
  gc_RoomError : mg "RoomError" = some (.ref (He.ga K "RoomError"))
  gc_BadJournal : mg "BadJournal" = some (.ref (He.ga K "BadJournal"))
  gc_BadText : mg "BadText" = some (.ref (He.ga K "BadText"))
  xx_BadNumber : PySem.W.excIn K (He.ga K "BadNumber") [.type "ValueError", .type "Exception", .type "BaseException", .type "object"] "ValueError.__new__" = true ∧ PySem.W.keepIn K (.ref (He.ga K "BadNumber")) = true ∧ PySem.W.subIn K (.ref (He.ga K "BadNumber")) (.type "BaseException") = some true ∧ PySem.W.typeIn K (.ref (He.ga K "BadNumber")) = some (.type "type")
  e_BadNumber_RoomError : PySem.W.exmOne K (.ref (He.ga K "BadNumber")) (.ref (He.ga K "RoomError")) = some true
  e_BadNumber_BadNumber : PySem.W.exmOne K (.ref (He.ga K "BadNumber")) (.ref (He.ga K "BadNumber")) = some true
  xx_BadName : PySem.W.excIn K (He.ga K "BadName") [.type "ValueError", .type "Exception", .type "BaseException", .type "object"] "ValueError.__new__" = true ∧ PySem.W.keepIn K (.ref (He.ga K "BadName")) = true ∧ PySem.W.subIn K (.ref (He.ga K "BadName")) (.type "BaseException") = some true ∧ PySem.W.typeIn K (.ref (He.ga K "BadName")) = some (.type "type")
  e_BadName_RoomError : PySem.W.exmOne K (.ref (He.ga K "BadName")) (.ref (He.ga K "RoomError")) = some true
  e_BadName_BadNumber : PySem.W.exmOne K (.ref (He.ga K "BadName")) (.ref (He.ga K "BadNumber")) = some false
  xx_BadWish : PySem.W.excIn K (He.ga K "BadWish") [.type "ValueError", .type "Exception", .type "BaseException", .type "object"] "ValueError.__new__" = true ∧ PySem.W.keepIn K (.ref (He.ga K "BadWish")) = true ∧ PySem.W.subIn K (.ref (He.ga K "BadWish")) (.type "BaseException") = some true ∧ PySem.W.typeIn K (.ref (He.ga K "BadWish")) = some (.type "type")
  e_BadWish_RoomError : PySem.W.exmOne K (.ref (He.ga K "BadWish")) (.ref (He.ga K "RoomError")) = some true
  e_BadWish_BadNumber : PySem.W.exmOne K (.ref (He.ga K "BadWish")) (.ref (He.ga K "BadNumber")) = some false
  xx_Known : PySem.W.excIn K (He.ga K "Known") [.type "ValueError", .type "Exception", .type "BaseException", .type "object"] "ValueError.__new__" = true ∧ PySem.W.keepIn K (.ref (He.ga K "Known")) = true ∧ PySem.W.subIn K (.ref (He.ga K "Known")) (.type "BaseException") = some true ∧ PySem.W.typeIn K (.ref (He.ga K "Known")) = some (.type "type")
  e_Known_RoomError : PySem.W.exmOne K (.ref (He.ga K "Known")) (.ref (He.ga K "RoomError")) = some true
  e_Known_BadNumber : PySem.W.exmOne K (.ref (He.ga K "Known")) (.ref (He.ga K "BadNumber")) = some false
  xx_Writes : PySem.W.excIn K (He.ga K "Writes") [.type "ValueError", .type "Exception", .type "BaseException", .type "object"] "ValueError.__new__" = true ∧ PySem.W.keepIn K (.ref (He.ga K "Writes")) = true ∧ PySem.W.subIn K (.ref (He.ga K "Writes")) (.type "BaseException") = some true ∧ PySem.W.typeIn K (.ref (He.ga K "Writes")) = some (.type "type")
  e_Writes_RoomError : PySem.W.exmOne K (.ref (He.ga K "Writes")) (.ref (He.ga K "RoomError")) = some true
  e_Writes_BadNumber : PySem.W.exmOne K (.ref (He.ga K "Writes")) (.ref (He.ga K "BadNumber")) = some false
  xx_Asked : PySem.W.excIn K (He.ga K "Asked") [.type "ValueError", .type "Exception", .type "BaseException", .type "object"] "ValueError.__new__" = true ∧ PySem.W.keepIn K (.ref (He.ga K "Asked")) = true ∧ PySem.W.subIn K (.ref (He.ga K "Asked")) (.type "BaseException") = some true ∧ PySem.W.typeIn K (.ref (He.ga K "Asked")) = some (.type "type")
  e_Asked_RoomError : PySem.W.exmOne K (.ref (He.ga K "Asked")) (.ref (He.ga K "RoomError")) = some true
  e_Asked_BadNumber : PySem.W.exmOne K (.ref (He.ga K "Asked")) (.ref (He.ga K "BadNumber")) = some false
  xx_Reads : PySem.W.excIn K (He.ga K "Reads") [.type "ValueError", .type "Exception", .type "BaseException", .type "object"] "ValueError.__new__" = true ∧ PySem.W.keepIn K (.ref (He.ga K "Reads")) = true ∧ PySem.W.subIn K (.ref (He.ga K "Reads")) (.type "BaseException") = some true ∧ PySem.W.typeIn K (.ref (He.ga K "Reads")) = some (.type "type")
  e_Reads_RoomError : PySem.W.exmOne K (.ref (He.ga K "Reads")) (.ref (He.ga K "RoomError")) = some true
  e_Reads_BadNumber : PySem.W.exmOne K (.ref (He.ga K "Reads")) (.ref (He.ga K "BadNumber")) = some false
  xx_Inside : PySem.W.excIn K (He.ga K "Inside") [.type "ValueError", .type "Exception", .type "BaseException", .type "object"] "ValueError.__new__" = true ∧ PySem.W.keepIn K (.ref (He.ga K "Inside")) = true ∧ PySem.W.subIn K (.ref (He.ga K "Inside")) (.type "BaseException") = some true ∧ PySem.W.typeIn K (.ref (He.ga K "Inside")) = some (.type "type")
  e_Inside_RoomError : PySem.W.exmOne K (.ref (He.ga K "Inside")) (.ref (He.ga K "RoomError")) = some true
  e_Inside_BadNumber : PySem.W.exmOne K (.ref (He.ga K "Inside")) (.ref (He.ga K "BadNumber")) = some false
  xx_Stranger : PySem.W.excIn K (He.ga K "Stranger") [.type "ValueError", .type "Exception", .type "BaseException", .type "object"] "ValueError.__new__" = true ∧ PySem.W.keepIn K (.ref (He.ga K "Stranger")) = true ∧ PySem.W.subIn K (.ref (He.ga K "Stranger")) (.type "BaseException") = some true ∧ PySem.W.typeIn K (.ref (He.ga K "Stranger")) = some (.type "type")
  e_Stranger_RoomError : PySem.W.exmOne K (.ref (He.ga K "Stranger")) (.ref (He.ga K "RoomError")) = some true
  e_Stranger_BadNumber : PySem.W.exmOne K (.ref (He.ga K "Stranger")) (.ref (He.ga K "BadNumber")) = some false
  xx_Outside : PySem.W.excIn K (He.ga K "Outside") [.type "ValueError", .type "Exception", .type "BaseException", .type "object"] "ValueError.__new__" = true ∧ PySem.W.keepIn K (.ref (He.ga K "Outside")) = true ∧ PySem.W.subIn K (.ref (He.ga K "Outside")) (.type "BaseException") = some true ∧ PySem.W.typeIn K (.ref (He.ga K "Outside")) = some (.type "type")
  e_Outside_RoomError : PySem.W.exmOne K (.ref (He.ga K "Outside")) (.ref (He.ga K "RoomError")) = some true
  e_Outside_BadNumber : PySem.W.exmOne K (.ref (He.ga K "Outside")) (.ref (He.ga K "BadNumber")) = some false
  xx_BadJournal : PySem.W.excIn K (He.ga K "BadJournal") [.type "ValueError", .type "Exception", .type "BaseException", .type "object"] "ValueError.__new__" = true ∧ PySem.W.keepIn K (.ref (He.ga K "BadJournal")) = true ∧ PySem.W.subIn K (.ref (He.ga K "BadJournal")) (.type "BaseException") = some true ∧ PySem.W.typeIn K (.ref (He.ga K "BadJournal")) = some (.type "type")
  e_BadJournal_RoomError : PySem.W.exmOne K (.ref (He.ga K "BadJournal")) (.ref (He.ga K "RoomError")) = some true
  e_BadJournal_BadNumber : PySem.W.exmOne K (.ref (He.ga K "BadJournal")) (.ref (He.ga K "BadNumber")) = some false
  m_ValueError : mg "ValueError" = none
  m_all : mg "all" = none
  m_bool : mg "bool" = none
  m_dict : mg "dict" = none
  m_enumerate : mg "enumerate" = none
  m_int : mg "int" = none
  m_isinstance : mg "isinstance" = none
  m_len : mg "len" = none
  m_list : mg "list" = none
  m_max : mg "max" = none
  m_range : mg "range" = none
  m_str : mg "str" = none
  m_tuple : mg "tuple" = none
  t_ASKED : Tok
  c_ASKED : mg "ASKED" = some (.str (Str.ofString "asked") t_ASKED)
  t_BEGINS : Tok
  c_BEGINS : mg "BEGINS" = some (.str (Str.ofString "begins") t_BEGINS)
  t_CAME : Tok
  c_CAME : mg "CAME" = some (.str (Str.ofString "came") t_CAME)
  t_EASED : Tok
  c_EASED : mg "EASED" = some (.str (Str.ofString "eased") t_EASED)
  t_LEAST_PATIENCE : Tok
  c_LEAST_PATIENCE : mg "LEAST_PATIENCE" = some (.int 0 t_LEAST_PATIENCE)
  t_LEAST_SEATS : Tok
  c_LEAST_SEATS : mg "LEAST_SEATS" = some (.int 1 t_LEAST_SEATS)
  t_LEFT : Tok
  c_LEFT : mg "LEFT" = some (.str (Str.ofString "left") t_LEFT)
  t_MOST : Tok
  c_MOST : mg "MOST" = some (.int 1000000000 t_MOST)
  t_NAME_LENGTH : Tok
  c_NAME_LENGTH : mg "NAME_LENGTH" = some (.int 12 t_NAME_LENGTH)
  t_NAME_SIGNS : Tok
  c_NAME_SIGNS : mg "NAME_SIGNS" = some (.str (Str.ofString "abcdefghijklmnopqrstuvwxyz0123456789") t_NAME_SIGNS)
  t_READ : Tok
  c_READ : mg "READ" = some (.str (Str.ofString "read") t_READ)
  t_WRITE : Tok
  c_WRITE : mg "WRITE" = some (.str (Str.ofString "write") t_WRITE)
  ex : exB K = true
structure Tabs {K : PySem.W.Frag} {mg : Str → Option Value} (T : Top K mg) (base : Heap) : Prop where
  IsName : GxR.TabB base mg T.co_IsName T.ta_IsName
def dIsName : He.DefD := ⟨("is_name", none), "is_name", "is_name", defArgs sIsName, defBody sIsName, defScope sIsName, [], []⟩
def dIsWish : He.DefD := ⟨("is_wish", none), "is_wish", "is_wish", defArgs sIsWish, defBody sIsWish, defScope sIsWish, [], []⟩
def dCan : He.DefD := ⟨("can_begin", none), "can_begin", "can_begin", defArgs sCan, defBody sCan, defScope sCan, [], []⟩
def dFirst : He.DefD := ⟨("first_reader", none), "first_reader", "first_reader", defArgs sFirst, defBody sFirst, defScope sFirst, [], []⟩
def dNextP : He.DefD := ⟨("next_place", none), "next_place", "next_place", defArgs sNextP, defBody sNextP, defScope sNextP, [], []⟩
def dIsWord : He.DefD := ⟨("is_word", none), "is_word", "is_word", defArgs sIsWord, defBody sIsWord, defScope sIsWord, [], []⟩
def dIsRow : He.DefD := ⟨("is_row", none), "is_row", "is_row", defArgs sIsRow, defBody sIsRow, defScope sIsRow, [], []⟩
def dIsNumber : He.DefD := ⟨("is_number", none), "is_number", "is_number", defArgs sIsNumber, defBody sIsNumber, defScope sIsNumber, [], []⟩
def dRoomInit : He.DefD := ⟨("Room", some "__init__"), "__init__", "Room.__init__", defArgs sRoomInit, defBody sRoomInit, defScope sRoomInit, [], []⟩
def dCome : He.DefD := ⟨("Room", some "come"), "come", "Room.come", defArgs sCome, defBody sCome, defScope sCome, [], []⟩
def dLeave : He.DefD := ⟨("Room", some "leave"), "leave", "Room.leave", defArgs sLeave, defBody sLeave, defScope sLeave, [], []⟩
def dAsk : He.DefD := ⟨("Room", some "ask"), "ask", "Room.ask", defArgs sAsk, defBody sAsk, defScope sAsk, [], []⟩
def dEase : He.DefD := ⟨("Room", some "ease"), "ease", "Room.ease", defArgs sEase, defBody sEase, defScope sEase, [], []⟩
def dReadersM : He.DefD := ⟨("Room", some "readers"), "readers", "Room.readers", defArgs sReadersM, defBody sReadersM, defScope sReadersM, [], []⟩
def dWriterM : He.DefD := ⟨("Room", some "writer"), "writer", "Room.writer", defArgs sWriterM, defBody sWriterM, defScope sWriterM, [], []⟩
def dLineM : He.DefD := ⟨("Room", some "line"), "line", "Room.line", defArgs sLineM, defBody sLineM, defScope sLineM, [], []⟩
def dPassedM : He.DefD := ⟨("Room", some "passed"), "passed", "Room.passed", defArgs sPassedM, defBody sPassedM, defScope sPassedM, [], []⟩
def dJournalM : He.DefD := ⟨("Room", some "journal"), "journal", "Room.journal", defArgs sJournalM, defBody sJournalM, defScope sJournalM, [], []⟩
def dPlaceM : He.DefD := ⟨("Room", some "_place"), "_place", "Room._place", defArgs sPlaceM, defBody sPlaceM, defScope sPlaceM, [], []⟩
def dIsIn : He.DefD := ⟨("Room", some "_is_inside"), "_is_inside", "Room._is_inside", defArgs sIsIn, defBody sIsIn, defScope sIsIn, [], []⟩
def dIsKnown : He.DefD := ⟨("Room", some "_is_known"), "_is_known", "Room._is_known", defArgs sIsKnown, defBody sIsKnown, defScope sIsKnown, [], []⟩
def dNeedKnown : He.DefD := ⟨("Room", some "_need_known"), "_need_known", "Room._need_known", defArgs sNeedKnown, defBody sNeedKnown, defScope sNeedKnown, [], []⟩
def dNeedIn : He.DefD := ⟨("Room", some "_need_inside"), "_need_inside", "Room._need_inside", defArgs sNeedIn, defBody sNeedIn, defScope sNeedIn, [], []⟩
def dGoOut : He.DefD := ⟨("Room", some "_go_out"), "_go_out", "Room._go_out", defArgs sGoOut, defBody sGoOut, defScope sGoOut, [], []⟩
def dSettle : He.DefD := ⟨("Room", some "_settle"), "_settle", "Room._settle", defArgs sSettle, defBody sSettle, defScope sSettle, [], []⟩
def dBeginNext : He.DefD := ⟨("Room", some "_begin_next"), "_begin_next", "Room._begin_next", defArgs sBeginNext, defBody sBeginNext, defScope sBeginNext, [], []⟩
def dBeginAsked : He.DefD := ⟨("Room", some "_begin_asked"), "_begin_asked", "Room._begin_asked", defArgs sBeginAsked, defBody sBeginAsked, defScope sBeginAsked, [], []⟩
def dCountPassed : He.DefD := ⟨("Room", some "_count_passed"), "_count_passed", "Room._count_passed", defArgs sCountPassed, defBody sCountPassed, defScope sCountPassed, [], []⟩
def dBegun : He.DefD := ⟨("begun", none), "begun", "begun", defArgs sBegun, defBody sBegun, defScope sBegun, [], []⟩
def dFirstWrong : He.DefD := ⟨("first_wrong", none), "first_wrong", "first_wrong", defArgs sFirstWrong, defBody sFirstWrong, defScope sFirstWrong, [], []⟩
def dJudged : He.DefD := ⟨("judged", none), "judged", "judged", defArgs sJudged, defBody sJudged, defScope sJudged, [], []⟩
def dRoomOf : He.DefD := ⟨("room_of", none), "room_of", "room_of", defArgs sRoomOf, defBody sRoomOf, defScope sRoomOf, [], []⟩
def dCell : He.DefD := ⟨("_law_cell_at", none), "_law_cell_at", "_law_cell_at", defArgs sCell, defBody sCell, defScope sCell, [], []⟩
def dWhole : He.DefD := ⟨("_law_whole", none), "_law_whole", "_law_whole", defArgs sWhole, defBody sWhole, defScope sWhole, [], []⟩
def dNum : He.DefD := ⟨("_law_number_by", none), "_law_number_by", "_law_number_by", defArgs sNum, defBody sNum, defScope sNum, [], []⟩
def dPeople : He.DefD := ⟨("_law_people", none), "_law_people", "_law_people", defArgs sPeople, defBody sPeople, defScope sPeople, [], []⟩
def dWish : He.DefD := ⟨("_law_wish_by", none), "_law_wish_by", "_law_wish_by", defArgs sWish, defBody sWish, defScope sWish, [], []⟩
def dDeedBy : He.DefD := ⟨("_law_deed_by", none), "_law_deed_by", "_law_deed_by", defArgs sDeedBy, defBody sDeedBy, defScope sDeedBy, [], []⟩
def dKnownF : He.DefD := ⟨("_law_known", none), "_law_known", "_law_known", defArgs sKnownF, defBody sKnownF, defScope sKnownF, [], []⟩
def dRefused : He.DefD := ⟨("_law_refused", none), "_law_refused", "_law_refused", defArgs sRefused, defBody sRefused, defScope sRefused, [], []⟩
def dDone : He.DefD := ⟨("_law_deed_done", none), "_law_deed_done", "_law_deed_done", defArgs sDone, defBody sDone, defScope sDone, [], []⟩
def dBegan : He.DefD := ⟨("_law_began", none), "_law_began", "_law_began", defArgs sBegan, defBody sBegan, defScope sBegan, [], []⟩
def dFresh : He.DefD := ⟨("_law_fresh", none), "_law_fresh", "_law_fresh", defArgs sFresh, defBody sFresh, defScope sFresh, [], []⟩
def dInside : He.DefD := ⟨("_law_inside", none), "_law_inside", "_law_inside", defArgs sInside, defBody sInside, defScope sInside, [], []⟩
def dSeats : He.DefD := ⟨("_law_seats", none), "_law_seats", "_law_seats", defArgs sSeats, defBody sSeats, defScope sSeats, [], []⟩
def dPatience : He.DefD := ⟨("_law_patience", none), "_law_patience", "_law_patience", defArgs sPatience, defBody sPatience, defScope sPatience, [], []⟩
def dCrowd : He.DefD := ⟨("_law_crowd", none), "_law_crowd", "_law_crowd", defArgs sCrowd, defBody sCrowd, defScope sCrowd, [], []⟩
def dNames : He.DefD := ⟨("_law_names", none), "_law_names", "_law_names", defArgs sNames, defBody sNames, defScope sNames, [], []⟩
def dNext : He.DefD := ⟨("_law_next", none), "_law_next", "_law_next", defArgs sNext, defBody sNext, defScope sNext, [], []⟩
def dPair : He.DefD := ⟨("_law_pair", none), "_law_pair", "_law_pair", defArgs sPair, defBody sPair, defScope sPair, [], []⟩
def dRowF : He.DefD := ⟨("_law_row", none), "_law_row", "_law_row", defArgs sRowF, defBody sRowF, defScope sRowF, [], []⟩
def dNameF : He.DefD := ⟨("_law_name", none), "_law_name", "_law_name", defArgs sNameF, defBody sNameF, defScope sNameF, [], []⟩
def dFormed : He.DefD := ⟨("_law_formed", none), "_law_formed", "_law_formed", defArgs sFormed, defBody sFormed, defScope sFormed, [], []⟩
def dJournalF : He.DefD := ⟨("_law_journal", none), "_law_journal", "_law_journal", defArgs sJournalF, defBody sJournalF, defScope sJournalF, [], []⟩
def dOtherRow : He.DefD := ⟨("_law_other_row", none), "_law_other_row", "_law_other_row", defArgs sOtherRow, defBody sOtherRow, defScope sOtherRow, [], []⟩
def dMisspelt : He.DefD := ⟨("_law_misspelt", none), "_law_misspelt", "_law_misspelt", defArgs sMisspelt, defBody sMisspelt, defScope sMisspelt, [], []⟩
def dSpoilt : He.DefD := ⟨("_law_spoilt", none), "_law_spoilt", "_law_spoilt", defArgs sSpoilt, defBody sSpoilt, defScope sSpoilt, [], []⟩
def dGoneF : He.DefD := ⟨("_law_gone", none), "_law_gone", "_law_gone", defArgs sGoneF, defBody sGoneF, defScope sGoneF, [], []⟩
def dRefuses : He.DefD := ⟨("_law_refuses", none), "_law_refuses", "_law_refuses", defArgs sRefuses, defBody sRefuses, defScope sRefuses, [], []⟩
def dToldF : He.DefD := ⟨("_law_told", none), "_law_told", "_law_told", defArgs sToldF, defBody sToldF, defScope sToldF, [], []⟩
def dRefusedRows : He.DefD := ⟨("_law_refused_rows", none), "_law_refused_rows", "_law_refused_rows", defArgs sRefusedRows, defBody sRefusedRows, defScope sRefusedRows, [], []⟩
def dLaw : He.DefD := ⟨("law", none), "law", "law", defArgs sLaw, defBody sLaw, defScope sLaw, [], []⟩
def fns : List He.DefD := ([dIsName, dIsWish, dCan, dFirst, dNextP, dIsWord, dIsRow, dIsNumber, dRoomInit, dCome, dLeave, dAsk, dEase, dReadersM, dWriterM, dLineM, dPassedM, dJournalM, dPlaceM, dIsIn, dIsKnown, dNeedKnown, dNeedIn, dGoOut, dSettle, dBeginNext, dBeginAsked, dCountPassed] : List He.DefD) ++ ([dBegun, dFirstWrong, dJudged, dRoomOf, dCell, dWhole, dNum, dPeople, dWish, dDeedBy, dKnownF, dRefused, dDone, dBegan, dFresh, dInside, dSeats, dPatience, dCrowd, dNames, dNext, dPair, dRowF, dNameF, dFormed, dJournalF, dOtherRow, dMisspelt] : List He.DefD) ++ ([dSpoilt, dGoneF, dRefuses, dToldF, dRefusedRows, dLaw] : List He.DefD)
def fas : List He.Fa := ([.glo "is_name", .glo "is_wish", .glo "can_begin", .glo "first_reader", .glo "next_place", .glo "is_word", .glo "is_row", .glo "is_number", .mkr "Room", .meth "Room" "come", .meth "Room" "leave", .meth "Room" "ask", .meth "Room" "ease", .meth "Room" "readers", .meth "Room" "writer", .meth "Room" "line", .meth "Room" "passed", .meth "Room" "journal", .meth "Room" "_place", .meth "Room" "_is_inside", .meth "Room" "_is_known", .meth "Room" "_need_known", .meth "Room" "_need_inside", .meth "Room" "_go_out", .meth "Room" "_settle", .meth "Room" "_begin_next", .meth "Room" "_begin_asked", .meth "Room" "_count_passed"] : List He.Fa) ++ ([.glo "begun", .glo "first_wrong", .glo "judged", .glo "room_of", .glo "_law_cell_at", .glo "_law_whole", .glo "_law_number_by", .glo "_law_people", .glo "_law_wish_by", .glo "_law_deed_by", .glo "_law_known", .glo "_law_refused", .glo "_law_deed_done", .glo "_law_began", .glo "_law_fresh", .glo "_law_inside", .glo "_law_seats", .glo "_law_patience", .glo "_law_crowd", .glo "_law_names", .glo "_law_next", .glo "_law_pair", .glo "_law_row", .glo "_law_name", .glo "_law_formed", .glo "_law_journal", .glo "_law_other_row", .glo "_law_misspelt"] : List He.Fa) ++ ([.glo "_law_spoilt", .glo "_law_gone", .glo "_law_refuses", .glo "_law_told", .glo "_law_refused_rows", .glo "law", .glo "Room", .cls "Room", .noat "Room" "seats", .noat "Room" "patience", .noat "Room" "_readers", .noat "Room" "_writer", .noat "Room" "_asker", .noat "Room" "_line", .noat "Room" "_rows", .glo "BadNumber", .glo "BadName", .glo "BadWish", .glo "Known", .glo "Writes", .glo "Asked", .glo "Reads", .glo "Inside", .glo "Stranger", .glo "Outside", .glo "RoomError", .glo "BadJournal", .glo "BadText"] : List He.Fa) ++ ([.exc "BadNumber", .exm "BadNumber" "RoomError" true, .exm "BadNumber" "BadNumber" true, .exc "BadName", .exm "BadName" "RoomError" true, .exm "BadName" "BadNumber" false, .exc "BadWish", .exm "BadWish" "RoomError" true, .exm "BadWish" "BadNumber" false, .exc "Known", .exm "Known" "RoomError" true, .exm "Known" "BadNumber" false, .exc "Writes", .exm "Writes" "RoomError" true, .exm "Writes" "BadNumber" false, .exc "Asked", .exm "Asked" "RoomError" true, .exm "Asked" "BadNumber" false, .exc "Reads", .exm "Reads" "RoomError" true, .exm "Reads" "BadNumber" false, .exc "Inside", .exm "Inside" "RoomError" true, .exm "Inside" "BadNumber" false, .exc "Stranger", .exm "Stranger" "RoomError" true, .exm "Stranger" "BadNumber" false, .exc "Outside"] : List He.Fa) ++ ([.exm "Outside" "RoomError" true, .exm "Outside" "BadNumber" false, .exc "BadJournal", .exm "BadJournal" "RoomError" true, .exm "BadJournal" "BadNumber" false, .free "ValueError", .free "all", .free "bool", .free "dict", .free "enumerate", .free "int", .free "isinstance", .free "len", .free "list", .free "max", .free "range", .free "str", .free "tuple", .str "ASKED" "asked", .str "BEGINS" "begins", .str "CAME" "came", .str "EASED" "eased", .int "LEAST_PATIENCE" 0, .int "LEAST_SEATS" 1, .str "LEFT" "left", .int "MOST" 1000000000, .int "NAME_LENGTH" 12, .str "NAME_SIGNS" "abcdefghijklmnopqrstuvwxyz0123456789"] : List He.Fa) ++ ([.str "READ" "read", .str "WRITE" "write"] : List He.Fa)
def tfs : List He.Defn := [("is_name", none)]
abbrev Rw : PySem.W.OpenRow := PySem.W.OpenLaw.row PySem.Challenge.rw_readwriteroom_k13_whole_judged
abbrev hk : PySem.W.Hook := He.hookX 6 fas fns [] tfs exB
def ob (s : PySem.W.SharedT) : He.AlX := He.obsX 6 fas fns [] tfs exB (HandSHeadRun.getT s)
theorem ob_is (s : PySem.W.SharedT) : ob s = hk.obs s.abs := He.obsX_eq (HandSHeadRun.getT_eq s)
def loose : List PySem.Str := (["_wall", "RoomError", "BadName", "BadWish", "BadNumber", "Known", "Stranger", "Outside", "Inside", "Reads", "Writes", "Asked", "BadText", "BadJournal", "READ", "WRITE", "NAME_SIGNS", "NAME_LENGTH", "is_name", "is_wish", "can_begin", "first_reader", "next_place", "CAME", "LEFT", "ASKED", "EASED", "BEGINS"] : List PySem.Str) ++ (["is_word", "is_row", "LEAST_SEATS", "LEAST_PATIENCE", "MOST", "is_number", "Room", "begun", "first_wrong", "judged", "room_of", "_law_cell_at", "_law_whole", "_law_number_by", "_law_people", "_law_wish_by", "_law_deed_by", "_law_known", "_law_refused", "_law_deed_done", "_law_began", "_law_fresh", "_law_inside", "_law_seats", "_law_patience", "_law_crowd", "_law_names", "_law_next"] : List PySem.Str) ++ (["_law_pair", "_law_row", "_law_name", "_law_formed", "_law_journal", "_law_other_row", "_law_misspelt", "_law_spoilt", "_law_gone", "_law_refuses", "_law_told", "_law_refused_rows"] : List PySem.Str)
set_option maxHeartbeats 0 in
theorem run (w : World) : HandSHeadRun.RunEq Rw (PySem.W.view Rw.prog [74]) hk ob 30000 loose w := by
  intro os
  kernel_rfl
theorem fun_of {K : PySem.W.Frag} {x z : Str} {st : Stmt} {f : Addr} {fd : FuncData} (F : L2.FunD K x z (defArgs st) (defBody st) (defScope st) [] [] f fd) : Fun K x z st f fd := by
  obtain ⟨oc, od, dV, kV, doc, pm, an, cdv, ct, osl, e, lk, hcd, hD, _⟩ := F.ex
  rcases hD with ⟨_, rfl⟩ | ⟨n, _⟩
  · exact ⟨⟨oc, od, kV, doc, pm, an, cdv, ct, osl, e, lk, hcd⟩, F.kp⟩
  · exact absurd rfl n
theorem code_is {K : PySem.W.Frag} {x z : Str} {st : Stmt} {p : He.Defn} {fd : FuncData} (F : Fun K x z st (He.fAd K p) fd) : fd.code = .ref (He.codeOf K p) := by
  obtain ⟨oc, od, kV, doc, pm, an, cdv, ct, osl, rfl, lk, hcd⟩ := F.ex
  obtain ⟨c, rfl⟩ := He.codeIn_ref hcd
  rw [He.codeOf_eq lk rfl]
theorem tab_is {base : Heap} {mg : Str → Option Value} {p : Addr × Addr} (h : LamX.TabB base mg p.1 p.2) : GxR.TabB base mg p.1 p.2 := ⟨h.code, h.bm, h.gP⟩
theorem facts {P : Program} {w : World} {K : PySem.W.Frag} {h : Heap} {mg : Str → Option Value} {fa : Addr} (X : K.In h) (G : h.Ns mainGlobals mg) (hfa : mg "law" = some (.ref fa)) (c : He.SaysX fas fns [] tfs exB w h K) :
    ∃ (T : Top K mg), T.f_Law = fa ∧ (∀ (s : Shared) (v : Value), BindsTo s T.fd_Law ⟨[v], []⟩ [("_law_script", v)]) ∧ (T.co_IsName, T.ta_IsName) = He.cT K ("is_name", none) := by
  obtain ⟨fd_IsName, D0⟩ := c.t.d.def_ 0 (d := dIsName) rfl
  have F_IsName : Fun K "is_name" "is_name" sIsName (He.fAd K ("is_name", none)) fd_IsName := fun_of D0
  have b_IsName := F_IsName.binds (ps := ["thing"]) fun _ _ _ _ _ _ us hl => match us, hl with | [_], _ => rfl
  obtain ⟨fd_IsWish, D1⟩ := c.t.d.def_ 1 (d := dIsWish) rfl
  have F_IsWish : Fun K "is_wish" "is_wish" sIsWish (He.fAd K ("is_wish", none)) fd_IsWish := fun_of D1
  have b_IsWish := F_IsWish.binds (ps := ["thing"]) fun _ _ _ _ _ _ us hl => match us, hl with | [_], _ => rfl
  obtain ⟨fd_Can, D2⟩ := c.t.d.def_ 2 (d := dCan) rfl
  have F_Can : Fun K "can_begin" "can_begin" sCan (He.fAd K ("can_begin", none)) fd_Can := fun_of D2
  have b_Can := F_Can.binds (ps := ["seats", "reading", "writes", "wish"]) fun _ _ _ _ _ _ us hl => match us, hl with | [_, _, _, _], _ => rfl
  obtain ⟨fd_First, D3⟩ := c.t.d.def_ 3 (d := dFirst) rfl
  have F_First : Fun K "first_reader" "first_reader" sFirst (He.fAd K ("first_reader", none)) fd_First := fun_of D3
  have b_First := F_First.binds (ps := ["line", "patience"]) fun _ _ _ _ _ _ us hl => match us, hl with | [_, _], _ => rfl
  obtain ⟨fd_NextP, D4⟩ := c.t.d.def_ 4 (d := dNextP) rfl
  have F_NextP : Fun K "next_place" "next_place" sNextP (He.fAd K ("next_place", none)) fd_NextP := fun_of D4
  have b_NextP := F_NextP.binds (ps := ["line", "seats", "patience", "reading", "writes"]) fun _ _ _ _ _ _ us hl => match us, hl with | [_, _, _, _, _], _ => rfl
  obtain ⟨fd_IsWord, D5⟩ := c.t.d.def_ 5 (d := dIsWord) rfl
  have F_IsWord : Fun K "is_word" "is_word" sIsWord (He.fAd K ("is_word", none)) fd_IsWord := fun_of D5
  have b_IsWord := F_IsWord.binds (ps := ["thing", "words"]) fun _ _ _ _ _ _ us hl => match us, hl with | [_, _], _ => rfl
  obtain ⟨fd_IsRow, D6⟩ := c.t.d.def_ 6 (d := dIsRow) rfl
  have F_IsRow : Fun K "is_row" "is_row" sIsRow (He.fAd K ("is_row", none)) fd_IsRow := fun_of D6
  have b_IsRow := F_IsRow.binds (ps := ["thing"]) fun _ _ _ _ _ _ us hl => match us, hl with | [_], _ => rfl
  obtain ⟨fd_IsNumber, D7⟩ := c.t.d.def_ 7 (d := dIsNumber) rfl
  have F_IsNumber : Fun K "is_number" "is_number" sIsNumber (He.fAd K ("is_number", none)) fd_IsNumber := fun_of D7
  have b_IsNumber := F_IsNumber.binds (ps := ["thing", "least"]) fun _ _ _ _ _ _ us hl => match us, hl with | [_, _], _ => rfl
  obtain ⟨fd_RoomInit, D8⟩ := c.t.d.def_ 8 (d := dRoomInit) rfl
  have F_RoomInit : Fun K "__init__" "Room.__init__" sRoomInit (He.fAd K ("Room", some "__init__")) fd_RoomInit := fun_of D8
  have b_RoomInit := F_RoomInit.binds (ps := ["self", "seats", "patience"]) fun _ _ _ _ _ _ us hl => match us, hl with | [_, _, _], _ => rfl
  obtain ⟨fd_Come, D9⟩ := c.t.d.def_ 9 (d := dCome) rfl
  have F_Come : Fun K "come" "Room.come" sCome (He.fAd K ("Room", some "come")) fd_Come := fun_of D9
  have b_Come := F_Come.binds (ps := ["self", "name", "wish"]) fun _ _ _ _ _ _ us hl => match us, hl with | [_, _, _], _ => rfl
  obtain ⟨fd_Leave, D10⟩ := c.t.d.def_ 10 (d := dLeave) rfl
  have F_Leave : Fun K "leave" "Room.leave" sLeave (He.fAd K ("Room", some "leave")) fd_Leave := fun_of D10
  have b_Leave := F_Leave.binds (ps := ["self", "name"]) fun _ _ _ _ _ _ us hl => match us, hl with | [_, _], _ => rfl
  obtain ⟨fd_Ask, D11⟩ := c.t.d.def_ 11 (d := dAsk) rfl
  have F_Ask : Fun K "ask" "Room.ask" sAsk (He.fAd K ("Room", some "ask")) fd_Ask := fun_of D11
  have b_Ask := F_Ask.binds (ps := ["self", "name"]) fun _ _ _ _ _ _ us hl => match us, hl with | [_, _], _ => rfl
  obtain ⟨fd_Ease, D12⟩ := c.t.d.def_ 12 (d := dEase) rfl
  have F_Ease : Fun K "ease" "Room.ease" sEase (He.fAd K ("Room", some "ease")) fd_Ease := fun_of D12
  have b_Ease := F_Ease.binds (ps := ["self", "name"]) fun _ _ _ _ _ _ us hl => match us, hl with | [_, _], _ => rfl
  obtain ⟨fd_ReadersM, D13⟩ := c.t.d.def_ 13 (d := dReadersM) rfl
  have F_ReadersM : Fun K "readers" "Room.readers" sReadersM (He.fAd K ("Room", some "readers")) fd_ReadersM := fun_of D13
  have b_ReadersM := F_ReadersM.binds (ps := ["self"]) fun _ _ _ _ _ _ us hl => match us, hl with | [_], _ => rfl
  obtain ⟨fd_WriterM, D14⟩ := c.t.d.def_ 14 (d := dWriterM) rfl
  have F_WriterM : Fun K "writer" "Room.writer" sWriterM (He.fAd K ("Room", some "writer")) fd_WriterM := fun_of D14
  have b_WriterM := F_WriterM.binds (ps := ["self"]) fun _ _ _ _ _ _ us hl => match us, hl with | [_], _ => rfl
  obtain ⟨fd_LineM, D15⟩ := c.t.d.def_ 15 (d := dLineM) rfl
  have F_LineM : Fun K "line" "Room.line" sLineM (He.fAd K ("Room", some "line")) fd_LineM := fun_of D15
  have b_LineM := F_LineM.binds (ps := ["self"]) fun _ _ _ _ _ _ us hl => match us, hl with | [_], _ => rfl
  obtain ⟨fd_PassedM, D16⟩ := c.t.d.def_ 16 (d := dPassedM) rfl
  have F_PassedM : Fun K "passed" "Room.passed" sPassedM (He.fAd K ("Room", some "passed")) fd_PassedM := fun_of D16
  have b_PassedM := F_PassedM.binds (ps := ["self", "name"]) fun _ _ _ _ _ _ us hl => match us, hl with | [_, _], _ => rfl
  obtain ⟨fd_JournalM, D17⟩ := c.t.d.def_ 17 (d := dJournalM) rfl
  have F_JournalM : Fun K "journal" "Room.journal" sJournalM (He.fAd K ("Room", some "journal")) fd_JournalM := fun_of D17
  have b_JournalM := F_JournalM.binds (ps := ["self"]) fun _ _ _ _ _ _ us hl => match us, hl with | [_], _ => rfl
  obtain ⟨fd_PlaceM, D18⟩ := c.t.d.def_ 18 (d := dPlaceM) rfl
  have F_PlaceM : Fun K "_place" "Room._place" sPlaceM (He.fAd K ("Room", some "_place")) fd_PlaceM := fun_of D18
  have b_PlaceM := F_PlaceM.binds (ps := ["self", "name"]) fun _ _ _ _ _ _ us hl => match us, hl with | [_, _], _ => rfl
  obtain ⟨fd_IsIn, D19⟩ := c.t.d.def_ 19 (d := dIsIn) rfl
  have F_IsIn : Fun K "_is_inside" "Room._is_inside" sIsIn (He.fAd K ("Room", some "_is_inside")) fd_IsIn := fun_of D19
  have b_IsIn := F_IsIn.binds (ps := ["self", "name"]) fun _ _ _ _ _ _ us hl => match us, hl with | [_, _], _ => rfl
  obtain ⟨fd_IsKnown, D20⟩ := c.t.d.def_ 20 (d := dIsKnown) rfl
  have F_IsKnown : Fun K "_is_known" "Room._is_known" sIsKnown (He.fAd K ("Room", some "_is_known")) fd_IsKnown := fun_of D20
  have b_IsKnown := F_IsKnown.binds (ps := ["self", "name"]) fun _ _ _ _ _ _ us hl => match us, hl with | [_, _], _ => rfl
  obtain ⟨fd_NeedKnown, D21⟩ := c.t.d.def_ 21 (d := dNeedKnown) rfl
  have F_NeedKnown : Fun K "_need_known" "Room._need_known" sNeedKnown (He.fAd K ("Room", some "_need_known")) fd_NeedKnown := fun_of D21
  have b_NeedKnown := F_NeedKnown.binds (ps := ["self", "name"]) fun _ _ _ _ _ _ us hl => match us, hl with | [_, _], _ => rfl
  obtain ⟨fd_NeedIn, D22⟩ := c.t.d.def_ 22 (d := dNeedIn) rfl
  have F_NeedIn : Fun K "_need_inside" "Room._need_inside" sNeedIn (He.fAd K ("Room", some "_need_inside")) fd_NeedIn := fun_of D22
  have b_NeedIn := F_NeedIn.binds (ps := ["self", "name"]) fun _ _ _ _ _ _ us hl => match us, hl with | [_, _], _ => rfl
  obtain ⟨fd_GoOut, D23⟩ := c.t.d.def_ 23 (d := dGoOut) rfl
  have F_GoOut : Fun K "_go_out" "Room._go_out" sGoOut (He.fAd K ("Room", some "_go_out")) fd_GoOut := fun_of D23
  have b_GoOut := F_GoOut.binds (ps := ["self", "name"]) fun _ _ _ _ _ _ us hl => match us, hl with | [_, _], _ => rfl
  obtain ⟨fd_Settle, D24⟩ := c.t.d.def_ 24 (d := dSettle) rfl
  have F_Settle : Fun K "_settle" "Room._settle" sSettle (He.fAd K ("Room", some "_settle")) fd_Settle := fun_of D24
  have b_Settle := F_Settle.binds (ps := ["self", "row"]) fun _ _ _ _ _ _ us hl => match us, hl with | [_, _], _ => rfl
  obtain ⟨fd_BeginNext, D25⟩ := c.t.d.def_ 25 (d := dBeginNext) rfl
  have F_BeginNext : Fun K "_begin_next" "Room._begin_next" sBeginNext (He.fAd K ("Room", some "_begin_next")) fd_BeginNext := fun_of D25
  have b_BeginNext := F_BeginNext.binds (ps := ["self"]) fun _ _ _ _ _ _ us hl => match us, hl with | [_], _ => rfl
  obtain ⟨fd_BeginAsked, D26⟩ := c.t.d.def_ 26 (d := dBeginAsked) rfl
  have F_BeginAsked : Fun K "_begin_asked" "Room._begin_asked" sBeginAsked (He.fAd K ("Room", some "_begin_asked")) fd_BeginAsked := fun_of D26
  have b_BeginAsked := F_BeginAsked.binds (ps := ["self"]) fun _ _ _ _ _ _ us hl => match us, hl with | [_], _ => rfl
  obtain ⟨fd_CountPassed, D27⟩ := c.t.d.def_ 27 (d := dCountPassed) rfl
  have F_CountPassed : Fun K "_count_passed" "Room._count_passed" sCountPassed (He.fAd K ("Room", some "_count_passed")) fd_CountPassed := fun_of D27
  have b_CountPassed := F_CountPassed.binds (ps := ["self", "place"]) fun _ _ _ _ _ _ us hl => match us, hl with | [_, _], _ => rfl
  obtain ⟨fd_Begun, D28⟩ := c.t.d.def_ 28 (d := dBegun) rfl
  have F_Begun : Fun K "begun" "begun" sBegun (He.fAd K ("begun", none)) fd_Begun := fun_of D28
  have b_Begun := F_Begun.binds (ps := ["room", "row"]) fun _ _ _ _ _ _ us hl => match us, hl with | [_, _], _ => rfl
  obtain ⟨fd_FirstWrong, D29⟩ := c.t.d.def_ 29 (d := dFirstWrong) rfl
  have F_FirstWrong : Fun K "first_wrong" "first_wrong" sFirstWrong (He.fAd K ("first_wrong", none)) fd_FirstWrong := fun_of D29
  have b_FirstWrong := F_FirstWrong.binds (ps := ["room", "rows"]) fun _ _ _ _ _ _ us hl => match us, hl with | [_, _], _ => rfl
  obtain ⟨fd_Judged, D30⟩ := c.t.d.def_ 30 (d := dJudged) rfl
  have F_Judged : Fun K "judged" "judged" sJudged (He.fAd K ("judged", none)) fd_Judged := fun_of D30
  have b_Judged := F_Judged.binds (ps := ["seats", "patience", "rows"]) fun _ _ _ _ _ _ us hl => match us, hl with | [_, _, _], _ => rfl
  obtain ⟨fd_RoomOf, D31⟩ := c.t.d.def_ 31 (d := dRoomOf) rfl
  have F_RoomOf : Fun K "room_of" "room_of" sRoomOf (He.fAd K ("room_of", none)) fd_RoomOf := fun_of D31
  have b_RoomOf := F_RoomOf.binds (ps := ["seats", "patience", "rows"]) fun _ _ _ _ _ _ us hl => match us, hl with | [_, _, _], _ => rfl
  obtain ⟨fd_Cell, D32⟩ := c.t.d.def_ 32 (d := dCell) rfl
  have F_Cell : Fun K "_law_cell_at" "_law_cell_at" sCell (He.fAd K ("_law_cell_at", none)) fd_Cell := fun_of D32
  have b_Cell := F_Cell.binds (ps := ["_law_script", "_law_k"]) fun _ _ _ _ _ _ us hl => match us, hl with | [_, _], _ => rfl
  obtain ⟨fd_Whole, D33⟩ := c.t.d.def_ 33 (d := dWhole) rfl
  have F_Whole : Fun K "_law_whole" "_law_whole" sWhole (He.fAd K ("_law_whole", none)) fd_Whole := fun_of D33
  have b_Whole := F_Whole.binds (ps := ["_law_found"]) fun _ _ _ _ _ _ us hl => match us, hl with | [_], _ => rfl
  obtain ⟨fd_Num, D34⟩ := c.t.d.def_ 34 (d := dNum) rfl
  have F_Num : Fun K "_law_number_by" "_law_number_by" sNum (He.fAd K ("_law_number_by", none)) fd_Num := fun_of D34
  have b_Num := F_Num.binds (ps := ["_law_cell", "_law_least"]) fun _ _ _ _ _ _ us hl => match us, hl with | [_, _], _ => rfl
  obtain ⟨fd_People, D35⟩ := c.t.d.def_ 35 (d := dPeople) rfl
  have F_People : Fun K "_law_people" "_law_people" sPeople (He.fAd K ("_law_people", none)) fd_People := fun_of D35
  have b_People := F_People.binds (ps := ["_law_cell", "_law_many"]) fun _ _ _ _ _ _ us hl => match us, hl with | [_, _], _ => rfl
  obtain ⟨fd_Wish, D36⟩ := c.t.d.def_ 36 (d := dWish) rfl
  have F_Wish : Fun K "_law_wish_by" "_law_wish_by" sWish (He.fAd K ("_law_wish_by", none)) fd_Wish := fun_of D36
  have b_Wish := F_Wish.binds (ps := ["_law_cell"]) fun _ _ _ _ _ _ us hl => match us, hl with | [_], _ => rfl
  obtain ⟨fd_DeedBy, D37⟩ := c.t.d.def_ 37 (d := dDeedBy) rfl
  have F_DeedBy : Fun K "_law_deed_by" "_law_deed_by" sDeedBy (He.fAd K ("_law_deed_by", none)) fd_DeedBy := fun_of D37
  have b_DeedBy := F_DeedBy.binds (ps := ["_law_cell", "_law_people_here", "_law_inside_here", "_law_waits"]) fun _ _ _ _ _ _ us hl => match us, hl with | [_, _, _, _], _ => rfl
  obtain ⟨fd_KnownF, D38⟩ := c.t.d.def_ 38 (d := dKnownF) rfl
  have F_KnownF : Fun K "_law_known" "_law_known" sKnownF (He.fAd K ("_law_known", none)) fd_KnownF := fun_of D38
  have b_KnownF := F_KnownF.binds (ps := ["_law_now", "_law_who"]) fun _ _ _ _ _ _ us hl => match us, hl with | [_, _], _ => rfl
  obtain ⟨fd_Refused, D39⟩ := c.t.d.def_ 39 (d := dRefused) rfl
  have F_Refused : Fun K "_law_refused" "_law_refused" sRefused (He.fAd K ("_law_refused", none)) fd_Refused := fun_of D39
  have b_Refused := F_Refused.binds (ps := ["_law_now", "_law_deed"]) fun _ _ _ _ _ _ us hl => match us, hl with | [_, _], _ => rfl
  obtain ⟨fd_Done, D40⟩ := c.t.d.def_ 40 (d := dDone) rfl
  have F_Done : Fun K "_law_deed_done" "_law_deed_done" sDone (He.fAd K ("_law_deed_done", none)) fd_Done := fun_of D40
  have b_Done := F_Done.binds (ps := ["_law_now", "_law_deed"]) fun _ _ _ _ _ _ us hl => match us, hl with | [_, _], _ => rfl
  obtain ⟨fd_Began, D41⟩ := c.t.d.def_ 41 (d := dBegan) rfl
  have F_Began : Fun K "_law_began" "_law_began" sBegan (He.fAd K ("_law_began", none)) fd_Began := fun_of D41
  have b_Began := F_Began.binds (ps := ["_law_now", "_law_place"]) fun _ _ _ _ _ _ us hl => match us, hl with | [_, _], _ => rfl
  obtain ⟨fd_Fresh, D42⟩ := c.t.d.def_ 42 (d := dFresh) rfl
  have F_Fresh : Fun K "_law_fresh" "_law_fresh" sFresh (He.fAd K ("_law_fresh", none)) fd_Fresh := fun_of D42
  have b_Fresh := F_Fresh.binds (ps := []) fun _ _ _ _ _ _ us hl => match us, hl with | [], _ => rfl
  obtain ⟨fd_Inside, D43⟩ := c.t.d.def_ 43 (d := dInside) rfl
  have F_Inside : Fun K "_law_inside" "_law_inside" sInside (He.fAd K ("_law_inside", none)) fd_Inside := fun_of D43
  have b_Inside := F_Inside.binds (ps := ["_law_now"]) fun _ _ _ _ _ _ us hl => match us, hl with | [_], _ => rfl
  obtain ⟨fd_Seats, D44⟩ := c.t.d.def_ 44 (d := dSeats) rfl
  have F_Seats : Fun K "_law_seats" "_law_seats" sSeats (He.fAd K ("_law_seats", none)) fd_Seats := fun_of D44
  have b_Seats := F_Seats.binds (ps := ["_law_script"]) fun _ _ _ _ _ _ us hl => match us, hl with | [_], _ => rfl
  obtain ⟨fd_Patience, D45⟩ := c.t.d.def_ 45 (d := dPatience) rfl
  have F_Patience : Fun K "_law_patience" "_law_patience" sPatience (He.fAd K ("_law_patience", none)) fd_Patience := fun_of D45
  have b_Patience := F_Patience.binds (ps := ["_law_script"]) fun _ _ _ _ _ _ us hl => match us, hl with | [_], _ => rfl
  obtain ⟨fd_Crowd, D46⟩ := c.t.d.def_ 46 (d := dCrowd) rfl
  have F_Crowd : Fun K "_law_crowd" "_law_crowd" sCrowd (He.fAd K ("_law_crowd", none)) fd_Crowd := fun_of D46
  have b_Crowd := F_Crowd.binds (ps := ["_law_script", "_law_many"]) fun _ _ _ _ _ _ us hl => match us, hl with | [_, _], _ => rfl
  obtain ⟨fd_Names, D47⟩ := c.t.d.def_ 47 (d := dNames) rfl
  have F_Names : Fun K "_law_names" "_law_names" sNames (He.fAd K ("_law_names", none)) fd_Names := fun_of D47
  have b_Names := F_Names.binds (ps := ["_law_script", "_law_many"]) fun _ _ _ _ _ _ us hl => match us, hl with | [_, _], _ => rfl
  obtain ⟨fd_Next, D48⟩ := c.t.d.def_ 48 (d := dNext) rfl
  have F_Next : Fun K "_law_next" "_law_next" sNext (He.fAd K ("_law_next", none)) fd_Next := fun_of D48
  have b_Next := F_Next.binds (ps := ["_law_now", "_law_seats_here", "_law_patience_here"]) fun _ _ _ _ _ _ us hl => match us, hl with | [_, _, _], _ => rfl
  obtain ⟨fd_Pair, D49⟩ := c.t.d.def_ 49 (d := dPair) rfl
  have F_Pair : Fun K "_law_pair" "_law_pair" sPair (He.fAd K ("_law_pair", none)) fd_Pair := fun_of D49
  have b_Pair := F_Pair.binds (ps := ["_law_now", "_law_place"]) fun _ _ _ _ _ _ us hl => match us, hl with | [_, _], _ => rfl
  obtain ⟨fd_RowF, D50⟩ := c.t.d.def_ 50 (d := dRowF) rfl
  have F_RowF : Fun K "_law_row" "_law_row" sRowF (He.fAd K ("_law_row", none)) fd_RowF := fun_of D50
  have b_RowF := F_RowF.binds (ps := ["_law_deed"]) fun _ _ _ _ _ _ us hl => match us, hl with | [_], _ => rfl
  obtain ⟨fd_NameF, D51⟩ := c.t.d.def_ 51 (d := dNameF) rfl
  have F_NameF : Fun K "_law_name" "_law_name" sNameF (He.fAd K ("_law_name", none)) fd_NameF := fun_of D51
  have b_NameF := F_NameF.binds (ps := ["_law_thing"]) fun _ _ _ _ _ _ us hl => match us, hl with | [_], _ => rfl
  obtain ⟨fd_Formed, D52⟩ := c.t.d.def_ 52 (d := dFormed) rfl
  have F_Formed : Fun K "_law_formed" "_law_formed" sFormed (He.fAd K ("_law_formed", none)) fd_Formed := fun_of D52
  have b_Formed := F_Formed.binds (ps := ["_law_row_here"]) fun _ _ _ _ _ _ us hl => match us, hl with | [_], _ => rfl
  obtain ⟨fd_JournalF, D53⟩ := c.t.d.def_ 53 (d := dJournalF) rfl
  have F_JournalF : Fun K "_law_journal" "_law_journal" sJournalF (He.fAd K ("_law_journal", none)) fd_JournalF := fun_of D53
  have b_JournalF := F_JournalF.binds (ps := ["_law_script", "_law_seats_here", "_law_patience_here"]) fun _ _ _ _ _ _ us hl => match us, hl with | [_, _, _], _ => rfl
  obtain ⟨fd_OtherRow, D54⟩ := c.t.d.def_ 54 (d := dOtherRow) rfl
  have F_OtherRow : Fun K "_law_other_row" "_law_other_row" sOtherRow (He.fAd K ("_law_other_row", none)) fd_OtherRow := fun_of D54
  have b_OtherRow := F_OtherRow.binds (ps := ["_law_row_here", "_law_way", "_law_cell", "_law_ahead"]) fun _ _ _ _ _ _ us hl => match us, hl with | [_, _, _, _], _ => rfl
  obtain ⟨fd_Misspelt, D55⟩ := c.t.d.def_ 55 (d := dMisspelt) rfl
  have F_Misspelt : Fun K "_law_misspelt" "_law_misspelt" sMisspelt (He.fAd K ("_law_misspelt", none)) fd_Misspelt := fun_of D55
  have b_Misspelt := F_Misspelt.binds (ps := ["_law_rows", "_law_more"]) fun _ _ _ _ _ _ us hl => match us, hl with | [_, _], _ => rfl
  obtain ⟨fd_Spoilt, D56⟩ := c.t.d.def_ 56 (d := dSpoilt) rfl
  have F_Spoilt : Fun K "_law_spoilt" "_law_spoilt" sSpoilt (He.fAd K ("_law_spoilt", none)) fd_Spoilt := fun_of D56
  have b_Spoilt := F_Spoilt.binds (ps := ["_law_rows", "_law_cell", "_law_more"]) fun _ _ _ _ _ _ us hl => match us, hl with | [_, _, _], _ => rfl
  obtain ⟨fd_GoneF, D57⟩ := c.t.d.def_ 57 (d := dGoneF) rfl
  have F_GoneF : Fun K "_law_gone" "_law_gone" sGoneF (He.fAd K ("_law_gone", none)) fd_GoneF := fun_of D57
  have b_GoneF := F_GoneF.binds (ps := ["_law_rows", "_law_seats_here", "_law_patience_here"]) fun _ _ _ _ _ _ us hl => match us, hl with | [_, _, _], _ => rfl
  obtain ⟨fd_Refuses, D58⟩ := c.t.d.def_ 58 (d := dRefuses) rfl
  have F_Refuses : Fun K "_law_refuses" "_law_refuses" sRefuses (He.fAd K ("_law_refuses", none)) fd_Refuses := fun_of D58
  have b_Refuses := F_Refuses.binds (ps := ["_law_seats_here", "_law_patience_here", "_law_rows"]) fun _ _ _ _ _ _ us hl => match us, hl with | [_, _, _], _ => rfl
  obtain ⟨fd_ToldF, D59⟩ := c.t.d.def_ 59 (d := dToldF) rfl
  have F_ToldF : Fun K "_law_told" "_law_told" sToldF (He.fAd K ("_law_told", none)) fd_ToldF := fun_of D59
  have b_ToldF := F_ToldF.binds (ps := ["_law_found", "_law_due"]) fun _ _ _ _ _ _ us hl => match us, hl with | [_, _], _ => rfl
  obtain ⟨fd_RefusedRows, D60⟩ := c.t.d.def_ 60 (d := dRefusedRows) rfl
  have F_RefusedRows : Fun K "_law_refused_rows" "_law_refused_rows" sRefusedRows (He.fAd K ("_law_refused_rows", none)) fd_RefusedRows := fun_of D60
  have b_RefusedRows := F_RefusedRows.binds (ps := ["_law_seats_here", "_law_patience_here", "_law_rows"]) fun _ _ _ _ _ _ us hl => match us, hl with | [_, _, _], _ => rfl
  obtain ⟨fd_Law, D61⟩ := c.t.d.def_ 61 (d := dLaw) rfl
  have F_Law : Fun K "law" "law" sLaw (He.fAd K ("law", none)) fd_Law := fun_of D61
  have b_Law := F_Law.binds (ps := ["_law_script"]) fun _ _ _ _ _ _ us hl => match us, hl with | [_], _ => rfl
  obtain ⟨t_ASKED, y_ASKED⟩ := He.str_ok X G (c.t.d.fact 130 (f := .str "ASKED" "asked") rfl)
  obtain ⟨t_BEGINS, y_BEGINS⟩ := He.str_ok X G (c.t.d.fact 131 (f := .str "BEGINS" "begins") rfl)
  obtain ⟨t_CAME, y_CAME⟩ := He.str_ok X G (c.t.d.fact 132 (f := .str "CAME" "came") rfl)
  obtain ⟨t_EASED, y_EASED⟩ := He.str_ok X G (c.t.d.fact 133 (f := .str "EASED" "eased") rfl)
  obtain ⟨t_LEAST_PATIENCE, y_LEAST_PATIENCE⟩ := He.int_ok X G (c.t.d.fact 134 (f := .int "LEAST_PATIENCE" 0) rfl)
  obtain ⟨t_LEAST_SEATS, y_LEAST_SEATS⟩ := He.int_ok X G (c.t.d.fact 135 (f := .int "LEAST_SEATS" 1) rfl)
  obtain ⟨t_LEFT, y_LEFT⟩ := He.str_ok X G (c.t.d.fact 136 (f := .str "LEFT" "left") rfl)
  obtain ⟨t_MOST, y_MOST⟩ := He.int_ok X G (c.t.d.fact 137 (f := .int "MOST" 1000000000) rfl)
  obtain ⟨t_NAME_LENGTH, y_NAME_LENGTH⟩ := He.int_ok X G (c.t.d.fact 138 (f := .int "NAME_LENGTH" 12) rfl)
  obtain ⟨t_NAME_SIGNS, y_NAME_SIGNS⟩ := He.str_ok X G (c.t.d.fact 139 (f := .str "NAME_SIGNS" "abcdefghijklmnopqrstuvwxyz0123456789") rfl)
  obtain ⟨t_READ, y_READ⟩ := He.str_ok X G (c.t.d.fact 140 (f := .str "READ" "read") rfl)
  obtain ⟨t_WRITE, y_WRITE⟩ := He.str_ok X G (c.t.d.fact 141 (f := .str "WRITE" "write") rfl)
  have e := hfa.symm.trans (He.glo_ok X G (c.t.d.fact 61 (f := .glo "law") rfl))
  have b := FunD.bindsA (ps := ["_law_script"]) D61 fun _ _ _ _ _ _ us hl => match us, hl with | [_], _ => rfl
  exact ⟨⟨_, fd_IsName, F_IsName, b_IsName, He.glo_ok X G (c.t.d.fact 0 (f := .glo "is_name") rfl), _, (He.cT K ("is_name", none)).2, code_is F_IsName, _, fd_IsWish, F_IsWish, b_IsWish, He.glo_ok X G (c.t.d.fact 1 (f := .glo "is_wish") rfl), _, fd_Can, F_Can, b_Can, He.glo_ok X G (c.t.d.fact 2 (f := .glo "can_begin") rfl), _, fd_First, F_First, b_First, He.glo_ok X G (c.t.d.fact 3 (f := .glo "first_reader") rfl), _, fd_NextP, F_NextP, b_NextP, He.glo_ok X G (c.t.d.fact 4 (f := .glo "next_place") rfl), _, fd_IsWord, F_IsWord, b_IsWord, He.glo_ok X G (c.t.d.fact 5 (f := .glo "is_word") rfl), _, fd_IsRow, F_IsRow, b_IsRow, He.glo_ok X G (c.t.d.fact 6 (f := .glo "is_row") rfl), _, fd_IsNumber, F_IsNumber, b_IsNumber, He.glo_ok X G (c.t.d.fact 7 (f := .glo "is_number") rfl), _, fd_RoomInit, F_RoomInit, b_RoomInit, He.mkr_ok (c.t.d.fact 8 (f := .mkr "Room") rfl), _, fd_Come, F_Come, b_Come, He.meth_ok (c.t.d.fact 9 (f := .meth "Room" "come") rfl), _, fd_Leave, F_Leave, b_Leave, He.meth_ok (c.t.d.fact 10 (f := .meth "Room" "leave") rfl), _, fd_Ask, F_Ask, b_Ask, He.meth_ok (c.t.d.fact 11 (f := .meth "Room" "ask") rfl), _, fd_Ease, F_Ease, b_Ease, He.meth_ok (c.t.d.fact 12 (f := .meth "Room" "ease") rfl), _, fd_ReadersM, F_ReadersM, b_ReadersM, He.meth_ok (c.t.d.fact 13 (f := .meth "Room" "readers") rfl), _, fd_WriterM, F_WriterM, b_WriterM, He.meth_ok (c.t.d.fact 14 (f := .meth "Room" "writer") rfl), _, fd_LineM, F_LineM, b_LineM, He.meth_ok (c.t.d.fact 15 (f := .meth "Room" "line") rfl), _, fd_PassedM, F_PassedM, b_PassedM, He.meth_ok (c.t.d.fact 16 (f := .meth "Room" "passed") rfl), _, fd_JournalM, F_JournalM, b_JournalM, He.meth_ok (c.t.d.fact 17 (f := .meth "Room" "journal") rfl), _, fd_PlaceM, F_PlaceM, b_PlaceM, He.meth_ok (c.t.d.fact 18 (f := .meth "Room" "_place") rfl), _, fd_IsIn, F_IsIn, b_IsIn, He.meth_ok (c.t.d.fact 19 (f := .meth "Room" "_is_inside") rfl), _, fd_IsKnown, F_IsKnown, b_IsKnown, He.meth_ok (c.t.d.fact 20 (f := .meth "Room" "_is_known") rfl), _, fd_NeedKnown, F_NeedKnown, b_NeedKnown, He.meth_ok (c.t.d.fact 21 (f := .meth "Room" "_need_known") rfl), _, fd_NeedIn, F_NeedIn, b_NeedIn, He.meth_ok (c.t.d.fact 22 (f := .meth "Room" "_need_inside") rfl), _, fd_GoOut, F_GoOut, b_GoOut, He.meth_ok (c.t.d.fact 23 (f := .meth "Room" "_go_out") rfl), _, fd_Settle, F_Settle, b_Settle, He.meth_ok (c.t.d.fact 24 (f := .meth "Room" "_settle") rfl), _, fd_BeginNext, F_BeginNext, b_BeginNext, He.meth_ok (c.t.d.fact 25 (f := .meth "Room" "_begin_next") rfl), _, fd_BeginAsked, F_BeginAsked, b_BeginAsked, He.meth_ok (c.t.d.fact 26 (f := .meth "Room" "_begin_asked") rfl), _, fd_CountPassed, F_CountPassed, b_CountPassed, He.meth_ok (c.t.d.fact 27 (f := .meth "Room" "_count_passed") rfl), _, fd_Begun, F_Begun, b_Begun, He.glo_ok X G (c.t.d.fact 28 (f := .glo "begun") rfl), _, fd_FirstWrong, F_FirstWrong, b_FirstWrong, He.glo_ok X G (c.t.d.fact 29 (f := .glo "first_wrong") rfl), _, fd_Judged, F_Judged, b_Judged, He.glo_ok X G (c.t.d.fact 30 (f := .glo "judged") rfl), _, fd_RoomOf, F_RoomOf, b_RoomOf, He.glo_ok X G (c.t.d.fact 31 (f := .glo "room_of") rfl), _, fd_Cell, F_Cell, b_Cell, He.glo_ok X G (c.t.d.fact 32 (f := .glo "_law_cell_at") rfl), _, fd_Whole, F_Whole, b_Whole, He.glo_ok X G (c.t.d.fact 33 (f := .glo "_law_whole") rfl), _, fd_Num, F_Num, b_Num, He.glo_ok X G (c.t.d.fact 34 (f := .glo "_law_number_by") rfl), _, fd_People, F_People, b_People, He.glo_ok X G (c.t.d.fact 35 (f := .glo "_law_people") rfl), _, fd_Wish, F_Wish, b_Wish, He.glo_ok X G (c.t.d.fact 36 (f := .glo "_law_wish_by") rfl), _, fd_DeedBy, F_DeedBy, b_DeedBy, He.glo_ok X G (c.t.d.fact 37 (f := .glo "_law_deed_by") rfl), _, fd_KnownF, F_KnownF, b_KnownF, He.glo_ok X G (c.t.d.fact 38 (f := .glo "_law_known") rfl), _, fd_Refused, F_Refused, b_Refused, He.glo_ok X G (c.t.d.fact 39 (f := .glo "_law_refused") rfl), _, fd_Done, F_Done, b_Done, He.glo_ok X G (c.t.d.fact 40 (f := .glo "_law_deed_done") rfl), _, fd_Began, F_Began, b_Began, He.glo_ok X G (c.t.d.fact 41 (f := .glo "_law_began") rfl), _, fd_Fresh, F_Fresh, b_Fresh, He.glo_ok X G (c.t.d.fact 42 (f := .glo "_law_fresh") rfl), _, fd_Inside, F_Inside, b_Inside, He.glo_ok X G (c.t.d.fact 43 (f := .glo "_law_inside") rfl), _, fd_Seats, F_Seats, b_Seats, He.glo_ok X G (c.t.d.fact 44 (f := .glo "_law_seats") rfl), _, fd_Patience, F_Patience, b_Patience, He.glo_ok X G (c.t.d.fact 45 (f := .glo "_law_patience") rfl), _, fd_Crowd, F_Crowd, b_Crowd, He.glo_ok X G (c.t.d.fact 46 (f := .glo "_law_crowd") rfl), _, fd_Names, F_Names, b_Names, He.glo_ok X G (c.t.d.fact 47 (f := .glo "_law_names") rfl), _, fd_Next, F_Next, b_Next, He.glo_ok X G (c.t.d.fact 48 (f := .glo "_law_next") rfl), _, fd_Pair, F_Pair, b_Pair, He.glo_ok X G (c.t.d.fact 49 (f := .glo "_law_pair") rfl), _, fd_RowF, F_RowF, b_RowF, He.glo_ok X G (c.t.d.fact 50 (f := .glo "_law_row") rfl), _, fd_NameF, F_NameF, b_NameF, He.glo_ok X G (c.t.d.fact 51 (f := .glo "_law_name") rfl), _, fd_Formed, F_Formed, b_Formed, He.glo_ok X G (c.t.d.fact 52 (f := .glo "_law_formed") rfl), _, fd_JournalF, F_JournalF, b_JournalF, He.glo_ok X G (c.t.d.fact 53 (f := .glo "_law_journal") rfl), _, fd_OtherRow, F_OtherRow, b_OtherRow, He.glo_ok X G (c.t.d.fact 54 (f := .glo "_law_other_row") rfl), _, fd_Misspelt, F_Misspelt, b_Misspelt, He.glo_ok X G (c.t.d.fact 55 (f := .glo "_law_misspelt") rfl), _, fd_Spoilt, F_Spoilt, b_Spoilt, He.glo_ok X G (c.t.d.fact 56 (f := .glo "_law_spoilt") rfl), _, fd_GoneF, F_GoneF, b_GoneF, He.glo_ok X G (c.t.d.fact 57 (f := .glo "_law_gone") rfl), _, fd_Refuses, F_Refuses, b_Refuses, He.glo_ok X G (c.t.d.fact 58 (f := .glo "_law_refuses") rfl), _, fd_ToldF, F_ToldF, b_ToldF, He.glo_ok X G (c.t.d.fact 59 (f := .glo "_law_told") rfl), _, fd_RefusedRows, F_RefusedRows, b_RefusedRows, He.glo_ok X G (c.t.d.fact 60 (f := .glo "_law_refused_rows") rfl), _, fd_Law, F_Law, b_Law, He.glo_ok X G (c.t.d.fact 61 (f := .glo "law") rfl), He.glo_ok X G (c.t.d.fact 62 (f := .glo "Room") rfl), He.cls_ok (c.t.d.fact 63 (f := .cls "Room") rfl), He.noat_ok (c.t.d.fact 64 (f := .noat "Room" "seats") rfl), He.noat_ok (c.t.d.fact 65 (f := .noat "Room" "patience") rfl), He.noat_ok (c.t.d.fact 66 (f := .noat "Room" "_readers") rfl), He.noat_ok (c.t.d.fact 67 (f := .noat "Room" "_writer") rfl), He.noat_ok (c.t.d.fact 68 (f := .noat "Room" "_asker") rfl), He.noat_ok (c.t.d.fact 69 (f := .noat "Room" "_line") rfl), He.noat_ok (c.t.d.fact 70 (f := .noat "Room" "_rows") rfl), He.glo_ok X G (c.t.d.fact 71 (f := .glo "BadNumber") rfl), He.glo_ok X G (c.t.d.fact 72 (f := .glo "BadName") rfl), He.glo_ok X G (c.t.d.fact 73 (f := .glo "BadWish") rfl), He.glo_ok X G (c.t.d.fact 74 (f := .glo "Known") rfl), He.glo_ok X G (c.t.d.fact 75 (f := .glo "Writes") rfl), He.glo_ok X G (c.t.d.fact 76 (f := .glo "Asked") rfl), He.glo_ok X G (c.t.d.fact 77 (f := .glo "Reads") rfl), He.glo_ok X G (c.t.d.fact 78 (f := .glo "Inside") rfl), He.glo_ok X G (c.t.d.fact 79 (f := .glo "Stranger") rfl), He.glo_ok X G (c.t.d.fact 80 (f := .glo "Outside") rfl), He.glo_ok X G (c.t.d.fact 81 (f := .glo "RoomError") rfl), He.glo_ok X G (c.t.d.fact 82 (f := .glo "BadJournal") rfl), He.glo_ok X G (c.t.d.fact 83 (f := .glo "BadText") rfl), He.exc_ok (c.t.d.fact 84 (f := .exc "BadNumber") rfl), He.exm_ok (c.t.d.fact 85 (f := .exm "BadNumber" "RoomError" true) rfl), He.exm_ok (c.t.d.fact 86 (f := .exm "BadNumber" "BadNumber" true) rfl), He.exc_ok (c.t.d.fact 87 (f := .exc "BadName") rfl), He.exm_ok (c.t.d.fact 88 (f := .exm "BadName" "RoomError" true) rfl), He.exm_ok (c.t.d.fact 89 (f := .exm "BadName" "BadNumber" false) rfl), He.exc_ok (c.t.d.fact 90 (f := .exc "BadWish") rfl), He.exm_ok (c.t.d.fact 91 (f := .exm "BadWish" "RoomError" true) rfl), He.exm_ok (c.t.d.fact 92 (f := .exm "BadWish" "BadNumber" false) rfl), He.exc_ok (c.t.d.fact 93 (f := .exc "Known") rfl), He.exm_ok (c.t.d.fact 94 (f := .exm "Known" "RoomError" true) rfl), He.exm_ok (c.t.d.fact 95 (f := .exm "Known" "BadNumber" false) rfl), He.exc_ok (c.t.d.fact 96 (f := .exc "Writes") rfl), He.exm_ok (c.t.d.fact 97 (f := .exm "Writes" "RoomError" true) rfl), He.exm_ok (c.t.d.fact 98 (f := .exm "Writes" "BadNumber" false) rfl), He.exc_ok (c.t.d.fact 99 (f := .exc "Asked") rfl), He.exm_ok (c.t.d.fact 100 (f := .exm "Asked" "RoomError" true) rfl), He.exm_ok (c.t.d.fact 101 (f := .exm "Asked" "BadNumber" false) rfl), He.exc_ok (c.t.d.fact 102 (f := .exc "Reads") rfl), He.exm_ok (c.t.d.fact 103 (f := .exm "Reads" "RoomError" true) rfl), He.exm_ok (c.t.d.fact 104 (f := .exm "Reads" "BadNumber" false) rfl), He.exc_ok (c.t.d.fact 105 (f := .exc "Inside") rfl), He.exm_ok (c.t.d.fact 106 (f := .exm "Inside" "RoomError" true) rfl), He.exm_ok (c.t.d.fact 107 (f := .exm "Inside" "BadNumber" false) rfl), He.exc_ok (c.t.d.fact 108 (f := .exc "Stranger") rfl), He.exm_ok (c.t.d.fact 109 (f := .exm "Stranger" "RoomError" true) rfl), He.exm_ok (c.t.d.fact 110 (f := .exm "Stranger" "BadNumber" false) rfl), He.exc_ok (c.t.d.fact 111 (f := .exc "Outside") rfl), He.exm_ok (c.t.d.fact 112 (f := .exm "Outside" "RoomError" true) rfl), He.exm_ok (c.t.d.fact 113 (f := .exm "Outside" "BadNumber" false) rfl), He.exc_ok (c.t.d.fact 114 (f := .exc "BadJournal") rfl), He.exm_ok (c.t.d.fact 115 (f := .exm "BadJournal" "RoomError" true) rfl), He.exm_ok (c.t.d.fact 116 (f := .exm "BadJournal" "BadNumber" false) rfl), He.free_ok X G (c.t.d.fact 117 (f := .free "ValueError") rfl), He.free_ok X G (c.t.d.fact 118 (f := .free "all") rfl), He.free_ok X G (c.t.d.fact 119 (f := .free "bool") rfl), He.free_ok X G (c.t.d.fact 120 (f := .free "dict") rfl), He.free_ok X G (c.t.d.fact 121 (f := .free "enumerate") rfl), He.free_ok X G (c.t.d.fact 122 (f := .free "int") rfl), He.free_ok X G (c.t.d.fact 123 (f := .free "isinstance") rfl), He.free_ok X G (c.t.d.fact 124 (f := .free "len") rfl), He.free_ok X G (c.t.d.fact 125 (f := .free "list") rfl), He.free_ok X G (c.t.d.fact 126 (f := .free "max") rfl), He.free_ok X G (c.t.d.fact 127 (f := .free "range") rfl), He.free_ok X G (c.t.d.fact 128 (f := .free "str") rfl), He.free_ok X G (c.t.d.fact 129 (f := .free "tuple") rfl), t_ASKED, y_ASKED, t_BEGINS, y_BEGINS, t_CAME, y_CAME, t_EASED, y_EASED, t_LEAST_PATIENCE, y_LEAST_PATIENCE, t_LEAST_SEATS, y_LEAST_SEATS, t_LEFT, y_LEFT, t_MOST, y_MOST, t_NAME_LENGTH, y_NAME_LENGTH, t_NAME_SIGNS, y_NAME_SIGNS, t_READ, y_READ, t_WRITE, y_WRITE, c.more⟩, (Value.ref.inj (Option.some.inj e)).symm, fun s v => b s [v] rfl, rfl⟩

/-! ### deeds that the law draws -/
/-- a number of this script: some number in its bounds -/
def spBnd (K : PySem.W.Frag) (least : Int) (f : List Int → Int) : Sp := fun vs H Q _ => ∃ (a : Addr) (ns : List Int), vs = [.ref a] ∧ SqL K H a (ns.map V.int) ∧ RV (.int (f ns)) H Q
theorem sv_bnd {K : PySem.W.Frag} {least : Int} {f : List Int → Int} {H : Hp} {a : Addr} {ns : List Int} (h : SqL K H a (ns.map V.int)) : SpV (spBnd K least f) [.ref a] H (.int (f ns)) := fun H1 Q E g q => ⟨a, ns, rfl, g.sl h, q⟩
def seatsOf (ns : List Int) : Int :=
  if ((cellAt ns 4).fmod 8 = 1 ∨ (cellAt ns 4).fmod 8 = 3) ∧ (cellAt ns 0).fmod 2 = 1 then 1 + ((cellAt ns 0).fdiv 2).fmod 80 else numBy (cellAt ns 0) 1
def patienceOf (ns : List Int) : Int :=
  if (cellAt ns 4).fmod 8 = 2 ∧ (cellAt ns 1).fmod 2 = 1 then ((cellAt ns 1).fdiv 2).fmod 120 else numBy (cellAt ns 1) 0
theorem seatsOf_in (ns : List Int) : 1 ≤ seatsOf ns ∧ seatsOf ns ≤ 10 ^ 9 := by
  have b := fmod_in ((cellAt ns 0).fdiv 2) (m := 80) (by decide)
  have n := numBy_in (cellAt ns 0) 1 (.inr rfl)
  unfold seatsOf
  split <;> omega
theorem patienceOf_in (ns : List Int) : 0 ≤ patienceOf ns ∧ patienceOf ns ≤ 10 ^ 9 := by
  have b := fmod_in ((cellAt ns 1).fdiv 2) (m := 120) (by decide)
  have n := numBy_in (cellAt ns 1) 0 (.inl rfl)
  unfold patienceOf
  split <;> omega
/-- a deed: its word, a name, a wish -/
structure Deed where
  word : Str
  who : Str
  wish : Str
def Deed.vs (d : Deed) : List V := [.str d.word, .str d.who, .str d.wish]
abbrev wCame : Str := "came"
abbrev wLeft : Str := "left"
abbrev wAsked : Str := "asked"
abbrev wEased : Str := "eased"
def Deed.good (d : Deed) : Prop := (d.word = wCame ∨ d.word = wLeft ∨ d.word = wAsked ∨ d.word = wEased) ∧ nameB d.who = true ∧ (d.wish = rd ∨ d.wish = wr)
/-- a new list of good deeds -/
def Deeds (H0 : Hp) (v : V) (H : Hp) : Prop := ∃ (p : Addr) (vs : List V) (ds : List Deed), v = .ref p ∧ H0 p = none ∧ H p = some (.lst vs) ∧ TupsAt H Deed.vs vs ds ∧ ds.length ≤ 300 ∧ ∀ d ∈ ds, d.good
def spCrowd (K : PySem.W.Frag) : Sp := fun vs H Q _ => ∃ (a : Addr) (ns : List Int) (n : Nat), vs = [.ref a, .int (n : Int)] ∧ SqL K H a (ns.map V.int) ∧ 1 ≤ n ∧ n ≤ 12 ∧ RR_ (Deeds H) H Q
/-- a list of some names, none or more -/
def SomeNames (v : V) (H : Hp) : Prop := ∃ (p : Addr) (ss : List Str), v = .ref p ∧ H p = some (.lst (ss.map V.str)) ∧ 1 ≤ ss.length ∧ ss.length ≤ 80 ∧ ∀ s ∈ ss, nameB s = true
def spNames (K : PySem.W.Frag) : Sp := fun vs H Q _ => ∃ (a : Addr) (ns : List Int) (n : Nat), vs = [.ref a, .int (n : Int)] ∧ SqL K H a (ns.map V.int) ∧ 1 ≤ n ∧ n ≤ 12 ∧ RR_ SomeNames H Q
def spDeedBy (K : PySem.W.Frag) : Sp := fun vs H Q _ => ∃ (c : Int) (pp pi pw : Addr) (ps is_ ws : List Str), vs = [.int c, .ref pp, .ref pi, .ref pw] ∧ SqL K H pp (ps.map V.str) ∧ SqL K H pi (is_.map V.str) ∧ SqL K H pw (ws.map V.str) ∧ 1 ≤ ps.length ∧ ps.length ≤ 1000 ∧ is_.length ≤ 40000 ∧ ws.length ≤ 40000 ∧
  (∀ s ∈ ps, nameB s = true) ∧ (∀ s ∈ is_, nameB s = true) ∧ RR_ (fun v H1 => ∃ p d, v = .ref p ∧ H1 p = some (.tup (Deed.vs d)) ∧ d.good) H Q

/-- pairs of texts -/
def P2.vs (p : Str × Str) : List V := [.str p.1, .str p.2]
def spPairs : Sp := fun vs H Q _ => ∃ (p : Addr) (xs : List V) (l : List (Str × Str)), vs = [.ref p] ∧ H p = some (.lst xs) ∧ TupsAt H P2.vs xs l ∧ RV (.bl true) H Q
def spTexts : Sp := fun vs H Q _ => ∃ (p : Addr) (l : List Str), vs = [.ref p] ∧ H p = some (.lst (l.map V.str)) ∧ RV (.bl true) H Q
def spWhole : Sp := fun vs H Q _ => ∃ i : Int, vs = [.int i] ∧ RV (.bl true) H Q

/-! ### the plain lists of the law: who reads, who writes, who asked, who waits -/
structure QE where
  who : Str
  wish : Str
  often : Nat
def QE.vs (e : QE) : List V := [.str e.who, .str e.wish, .int e.often]
structure Now where
  queue : List QE
  reading : List Str
  alone : Option Str
  asked : Option Str
def optV : Option Str → V
  | none => .non
  | some s => .str s
theorem scal_opt (o : Option Str) (s : Str) : scal (optV o) (.str s) = true := by cases o <;> rfl
theorem optV_is (o : Option Str) (s : Str) : decide (optV o = .str s) = decide (o = some s) := by
  cases o with
  | none => rfl
  | some t =>
    refine decide_eq_decide.mpr ⟨fun h => ?_, fun h => ?_⟩
    · cases h
      rfl
    · cases h
      rfl
theorem optV_non (o : Option Str) : decide (optV o = .non) = decide (o = none) := by cases o <;> rfl
def nowD (q r a k : V) : List (Key × V) := [(.inr "queue", q), (.inr "reading", r), (.inr "alone", a), (.inr "asked", k)]
theorem keys_ne : (("queue" : Str) = "reading") = False ∧ (("queue" : Str) = "alone") = False ∧ (("queue" : Str) = "asked") = False ∧ (("reading" : Str) = "queue") = False ∧ (("reading" : Str) = "alone") = False ∧ (("reading" : Str) = "asked") = False ∧
    (("alone" : Str) = "queue") = False ∧ (("alone" : Str) = "reading") = False ∧ (("alone" : Str) = "asked") = False ∧ (("asked" : Str) = "queue") = False ∧ (("asked" : Str) = "reading") = False ∧ (("asked" : Str) = "alone") = False := by
  refine ⟨?_, ?_, ?_, ?_, ?_, ?_, ?_, ?_, ?_, ?_, ?_, ?_⟩ <;> exact eq_false (by decide +kernel)
section
variable {q r a k v : V}
theorem get_q : valV (nowD q r a k) (.inr "queue" : Key) = some q := by
  obtain ⟨h1, h2, h3, h4, h5, h6, h7, h8, h9, h10, h11, h12⟩ := keys_ne
  simp [valV, nowD]
theorem get_r : valV (nowD q r a k) (.inr "reading" : Key) = some r := by
  obtain ⟨h1, h2, h3, h4, h5, h6, h7, h8, h9, h10, h11, h12⟩ := keys_ne
  simp [valV, nowD, List.find?_cons, h1]
theorem get_a : valV (nowD q r a k) (.inr "alone" : Key) = some a := by
  obtain ⟨h1, h2, h3, h4, h5, h6, h7, h8, h9, h10, h11, h12⟩ := keys_ne
  simp [valV, nowD, List.find?_cons, h2, h5]
theorem get_k : valV (nowD q r a k) (.inr "asked" : Key) = some k := by
  obtain ⟨h1, h2, h3, h4, h5, h6, h7, h8, h9, h10, h11, h12⟩ := keys_ne
  simp [valV, nowD, List.find?_cons, h3, h6, h9]
theorem put_q : putK (nowD q r a k) (.inr "queue" : Key) v = nowD v r a k := by
  obtain ⟨h1, h2, h3, h4, h5, h6, h7, h8, h9, h10, h11, h12⟩ := keys_ne
  simp [putK, nowD, h4, h7, h10]
theorem put_r : putK (nowD q r a k) (.inr "reading" : Key) v = nowD q v a k := by
  obtain ⟨h1, h2, h3, h4, h5, h6, h7, h8, h9, h10, h11, h12⟩ := keys_ne
  simp [putK, nowD, h1, h8, h11]
theorem put_a : putK (nowD q r a k) (.inr "alone" : Key) v = nowD q r v k := by
  obtain ⟨h1, h2, h3, h4, h5, h6, h7, h8, h9, h10, h11, h12⟩ := keys_ne
  simp [putK, nowD, h2, h5, h12]
theorem put_k : putK (nowD q r a k) (.inr "asked" : Key) v = nowD q r a v := by
  obtain ⟨h1, h2, h3, h4, h5, h6, h7, h8, h9, h10, h11, h12⟩ := keys_ne
  simp [putK, nowD, h3, h6, h9]
end
/-- these plain lists stand at p -/
def NowAt (L : Addr → Prop) (H : Hp) (p : Addr) (s : Now) : Prop := ∃ (q r : Addr) (xs : List V), H p = some (.dK (nowD (.ref q) (.ref r) (optV s.alone) (optV s.asked))) ∧ H q = some (.lst xs) ∧ TupsAt H QE.vs xs s.queue ∧ H r = some (.lst (s.reading.map V.str)) ∧ ¬ L p ∧ ¬ L q ∧ ¬ L r
def noL : Addr → Prop := fun _ => False
theorem NowAt.any {L : Addr → Prop} {H : Hp} {p : Addr} {s : Now} (h : NowAt L H p s) : NowAt noL H p s := let ⟨q, r, xs, h1, h2, h3, h4, _, _, _⟩ := h; ⟨q, r, xs, h1, h2, h3, h4, id, id, id⟩
/-- all of L is taken -/
def Live (L : Addr → Prop) (H : Hp) : Prop := ∀ b, L b → H b ≠ none
theorem Live.new {L : Addr → Prop} {H H' : Hp} {x : Addr} (l : Live L H) (g : Gr H H') (h : H' x = none) : ¬ L x := fun z => l x z (g.free h)
theorem Live.mono {L : Addr → Prop} {H H' : Hp} (l : Live L H) (g : Gr H H') : Live L H' := fun b z w => l b z (g.free w)
theorem Gr.dK {H H' : Hp} {a : Addr} {kvs : List (Key × V)} (x : Gr H H') (h : H a = some (.dK kvs)) : H' a = some (.dK kvs) := x.at_ h fun _ e => by cases e
theorem NowAt.mono {L : Addr → Prop} {H H' : Hp} {p : Addr} {s : Now} (g : Gr H H') (h : NowAt L H p s) : NowAt L H' p s := let ⟨q, r, xs, h1, h2, h3, h4, l⟩ := h; ⟨q, r, xs, g.dK h1, g.lst h2, h3.mono g, g.lst h4, l⟩
section
variable {K : PySem.W.Frag} {σ : L2.St} {H H' : Hp} {t1 t2 t3 : TE} {c1 c2 : TT} {x y z v : V} {D : Ends} {u1 u2 : TS}
theorem v_dget {p : Addr} {kvs : List (Key × V)} {k : Str} (h : Vl t1 σ H (.ref p)) (hd : H p = some (.dK kvs)) (e : valV kvs (.inr k) = some v) : Vl (tDGet t1 (tC (.str k))) σ H v := fun H1 Q g q => h H1 _ g fun H2 g2 => ⟨p, v, rfl, e ▸ DGet.k (k := .inr k) ((g.trans g2).dK hd), q H2 g2⟩
theorem v_nowQ {p q r : Addr} {a k : V} (h : Vl t1 σ H (.ref p)) (hd : H p = some (.dK (nowD (.ref q) (.ref r) a k))) : Vl (tDGet t1 (tC (.str "queue"))) σ H (.ref q) := v_dget h hd get_q
theorem v_nowR {p : Addr} {q r a k : V} (h : Vl t1 σ H (.ref p)) (hd : H p = some (.dK (nowD q r a k))) : Vl (tDGet t1 (tC (.str "reading"))) σ H r := v_dget h hd get_r
theorem v_nowA {p : Addr} {q r a k : V} (h : Vl t1 σ H (.ref p)) (hd : H p = some (.dK (nowD q r a k))) : Vl (tDGet t1 (tC (.str "alone"))) σ H a := v_dget h hd get_a
theorem v_nowK {p : Addr} {q r a k : V} (h : Vl t1 σ H (.ref p)) (hd : H p = some (.dK (nowD q r a k))) : Vl (tDGet t1 (tC (.str "asked"))) σ H k := v_dget h hd get_k
theorem S_dputR {R : V → Hp → Prop} {p : Addr} {kvs : List (Key × V)} {k : Str} (hv : Vr t2 σ H R) (hp : Vl t1 σ H (.ref p)) (hd : H p = some (.dK kvs)) (n : kvs.length ≤ 1000) (mono : ∀ {v H1 H2}, Gr H1 H2 → R v H1 → R v H2)
    (q : ∀ v H1, Gr H H1 → R v H1 → D.nx σ (upd H1 p (.dK (putK kvs (.inr k) v)))) : sDPut t1 (tC (.str k)) t2 D σ H := hv H _ (.refl _) fun v H1 g1 hr => hp H1 _ g1 fun H2 g2 => ⟨p, _, rfl, DPut.k (k := .inr k) ((g1.trans g2).dK hd) (Nat.lt_of_le_of_lt n (by decide)), q v H2 (g1.trans g2) (mono g2 hr)⟩
theorem S_dput {p : Addr} {kvs : List (Key × V)} {k : Str} (hv : Vl t2 σ H v) (hp : Vl t1 σ H (.ref p)) (hd : H p = some (.dK kvs)) (n : kvs.length ≤ 1000) (q : ∀ H1, Gr H H1 → D.nx σ (upd H1 p (.dK (putK kvs (.inr k) v)))) : sDPut t1 (tC (.str k)) t2 D σ H :=
  S_dputR hv.toR hp hd n (fun _ h => h) fun w H1 g e => e ▸ q H1 g
theorem B_dput {p : Addr} {kvs : List (Key × V)} {k : Str} (hv : Vl t2 σ H v) (hp : Vl t1 σ H (.ref p)) (hd : H p = some (.dK kvs)) (n : kvs.length ≤ 1000) (q : ∀ H1, Gr H H1 → u1 D σ (upd H1 p (.dK (putK kvs (.inr k) v)))) : tSeq (sDPut t1 (tC (.str k)) t2) u1 D σ H := S_dput (D := { D with nx := u1 D }) hv hp hd n q
theorem B_dputR {R : V → Hp → Prop} {p : Addr} {kvs : List (Key × V)} {k : Str} (hv : Vr t2 σ H R) (hp : Vl t1 σ H (.ref p)) (hd : H p = some (.dK kvs)) (n : kvs.length ≤ 1000) (mono : ∀ {v H1 H2}, Gr H1 H2 → R v H1 → R v H2)
    (q : ∀ v H1, Gr H H1 → R v H1 → u1 D σ (upd H1 p (.dK (putK kvs (.inr k) v)))) : tSeq (sDPut t1 (tC (.str k)) t2) u1 D σ H := S_dputR (D := { D with nx := u1 D }) hv hp hd n mono q
theorem flat_strs : ∀ l : List Str, (l.map V.str).all flatV = true
  | [] => rfl
  | _ :: l => by rw [List.map_cons, List.all_cons, flat_strs l]; rfl
theorem in_strs (z : Str) (l : List Str) : inV (.str z) (l.map V.str) = decide (z ∈ l) := by
  unfold inV
  rw [Bool.eq_iff_iff, List.any_eq_true, decide_eq_true_eq]
  have e : ∀ a b : Str, eqV (.str a) (.str b) = decide (V.str b = V.str a) := fun a b => by
    rw [dec_str]
    exact Bool.beq_comm ..
  constructor
  · rintro ⟨u, hu, h⟩
    obtain ⟨s, hs, rfl⟩ := List.mem_map.mp hu
    rw [e] at h
    have := V.str.inj (of_decide_eq_true h)
    rw [this]
    exact hs
  · intro h
    exact ⟨.str z, List.mem_map.mpr ⟨z, h, rfl⟩, by rw [e]; exact decide_eq_true rfl⟩
end
/-! ### what the law says of them -/
def Now.known (s : Now) (w : Str) : Bool := decide (w ∈ s.reading) || (decide (s.alone = some w) || decide (w ∈ s.queue.map QE.who))
def Now.refused (s : Now) (d : Deed) : Bool :=
  if d.word = wCame then s.known d.who else
  if d.word = wLeft then !s.known d.who else
  if d.word = wAsked then !decide (d.who ∈ s.reading) || decide (s.asked ≠ none) else
  decide (s.alone = none) || decide (s.alone ≠ some d.who)
def Now.small (s : Now) : Prop := s.queue.length ≤ 10000 ∧ s.reading.length ≤ 10000
def spKnown : Sp := fun vs H Q _ => ∃ (p : Addr) (s : Now) (w : Str), vs = [.ref p, .str w] ∧ NowAt noL H p s ∧ s.small ∧ RV (.bl (s.known w)) H Q
theorem sv_known {H : Hp} {p : Addr} {s : Now} {w : Str} (h : NowAt noL H p s) (n : s.small) : SpV spKnown [.ref p, .str w] H (.bl (s.known w)) := fun H1 Q E g q => ⟨p, s, w, rfl, h.mono g, n, q⟩
/-- a deed, or a row that tells of it -/
def Deed.At (d : Deed) (ts : List V) : Prop := ts = d.vs ∨ (d.word ≠ wCame ∧ ts = [.str d.word, .str d.who])
theorem Deed.At.w {d : Deed} {ts : List V} (h : d.At ts) : atI ts 0 = some (.str d.word) := by
  rcases h with rfl | ⟨_, rfl⟩ <;> rfl
theorem Deed.At.n {d : Deed} {ts : List V} (h : d.At ts) : atI ts 1 = some (.str d.who) := by
  rcases h with rfl | ⟨_, rfl⟩ <;> rfl
theorem Deed.At.x {d : Deed} {ts : List V} (h : d.At ts) (e : d.word = wCame) : atI ts 2 = some (.str d.wish) := by
  rcases h with rfl | ⟨n, _⟩
  · rfl
  · exact absurd e n
def spRefused : Sp := fun vs H Q _ => ∃ (p pd : Addr) (s : Now) (d : Deed) (ts : List V), vs = [.ref p, .ref pd] ∧ NowAt noL H p s ∧ s.small ∧ H pd = some (.tup ts) ∧ d.At ts ∧ RV (.bl (s.refused d)) H Q
def Now.inside (s : Now) : List Str := match s.alone with
  | none => s.reading
  | some a => [a]
def spInside : Sp := fun vs H Q _ => ∃ (p : Addr) (s : Now), vs = [.ref p] ∧ NowAt noL H p s ∧ RR_ (fun v H1 => ∃ r, v = .ref r ∧ H1 r = some (.lst (s.inside.map V.str))) H Q
def Deed.row (d : Deed) : JRow := if d.word = wCame then [d.word, d.who, d.wish] else [d.word, d.who]
def NewTup (H : Hp) (ts : List V) (v : V) (H1 : Hp) : Prop := ∃ t, v = .ref t ∧ H t = none ∧ H1 t = some (.tup ts)
def spRowF : Sp := fun vs H Q _ => ∃ (pd : Addr) (d : Deed), vs = [.ref pd] ∧ H pd = some (.tup d.vs) ∧ RR_ (NewTup H d.row.vs) H Q
/-- who begins from this place -/
def Now.pair (s : Now) (i : Int) (a b : Str) : Prop := (i = -1 ∧ s.asked = some a ∧ b = wr) ∨ ∃ (m : Nat) (e : QE), i = m ∧ s.queue[m]? = some e ∧ a = e.who ∧ b = e.wish
def spPair : Sp := fun vs H Q _ => ∃ (p : Addr) (s : Now) (i : Int) (a b : Str), vs = [.ref p, .int i] ∧ NowAt noL H p s ∧ s.pair i a b ∧ RR_ (NewTup H [.str a, .str b]) H Q
def Now.none : Now := ⟨[], [], Option.none, Option.none⟩
def NewNow (L : Addr → Prop) (H : Hp) (s : Now) (v : V) (H1 : Hp) : Prop := ∃ p, v = .ref p ∧ H p = .none ∧ NowAt L H1 p s
def spFresh : Sp := fun vs H Q _ => ∃ L : Addr → Prop, vs = [] ∧ Live L H ∧ RR_ (NewNow L H Now.none) H Q
/-! ### what a deed does, who begins next -/
def Now.done (s : Now) (d : Deed) : Now :=
  if d.word = wCame then { s with queue := s.queue ++ [⟨d.who, d.wish, 0⟩] } else
  if d.word = wAsked then { s with asked := some d.who } else
  if d.word = wEased then { s with alone := .none, reading := [d.who] } else
  ⟨s.queue.filter (fun e => decide (e.who ≠ d.who)), s.reading.filter (fun x => decide (x ≠ d.who)), if s.alone = some d.who then .none else s.alone, if s.asked = some d.who then .none else s.asked⟩
def scan (pat : Int) : List QE → Nat → Option Nat
  | [], _ => .none
  | e :: l, k => if e.wish = rd then some k else if pat ≤ (e.often : Int) then .none else scan pat l (k + 1)
def Now.next (s : Now) (seats pat : Int) : Option Int :=
  match s.asked with
  | some a => if s.reading = [a] then some (-1) else .none
  | .none => match s.queue with
    | [] => .none
    | e :: _ =>
      if s.alone ≠ .none then .none else
      if e.wish = wr ∧ s.reading = [] then some 0 else
      if seats ≤ (s.reading.length : Int) then .none else
      (scan pat s.queue 0).map fun k => (k : Int)
def QE.bump (e : QE) : QE := ⟨e.who, e.wish, e.often + 1⟩
def Now.began (s : Now) (i : Int) : Now :=
  if i < 0 then { s with alone := s.asked, asked := .none, reading := [] } else
  match s.queue[i.toNat]? with
  | .none => s
  | some e =>
    let q := (s.queue.take i.toNat).map QE.bump ++ s.queue.drop (i.toNat + 1)
    if e.wish = rd then { s with queue := q, reading := s.reading ++ [e.who] } else { s with queue := q, alone := some e.who }
def optI : Option Int → V
  | .none => .non
  | some i => .int i
def Now.good (s : Now) : Prop := s.small ∧ (∀ e ∈ s.queue, nameB e.who = true ∧ (e.wish = rd ∨ e.wish = wr)) ∧ (∀ x ∈ s.reading, nameB x = true) ∧ (∀ x, s.alone = some x → nameB x = true) ∧ ∀ x, s.asked = some x → nameB x = true
def spDone : Sp := fun vs H Q _ => ∃ (L : Addr → Prop) (p pd : Addr) (s : Now) (d : Deed) (ts : List V), vs = [.ref p, .ref pd] ∧ Live L H ∧ NowAt L H p s ∧ s.small ∧ H pd = some (.tup ts) ∧ d.At ts ∧ d.good ∧ RR_ (NewNow L H (s.done d)) H Q
def spBegan : Sp := fun vs H Q _ => ∃ (L : Addr → Prop) (p : Addr) (s : Now) (i : Int), vs = [.ref p, .int i] ∧ Live L H ∧ NowAt L H p s ∧ s.small ∧ (i = -1 ∨ ∃ m : Nat, i = m ∧ m < s.queue.length) ∧ RR_ (NewNow L H (s.began i)) H Q
def spNext : Sp := fun vs H Q _ => ∃ (p : Addr) (s : Now) (seats pat : Int), vs = [.ref p, .int seats, .int pat] ∧ NowAt noL H p s ∧ s.good ∧ RV (optI (s.next seats pat)) H Q
def qsD (l : List QE) : List PyData := l.map fun e => .tuple [.str e.who, .str e.wish, .int e.often]
theorem dps_qs {K : PySem.W.Frag} {H : Hp} : ∀ {vs : List V} {l : List QE}, TupsAt H QE.vs vs l → DpAll K H vs (qsD l)
  | _, _, .nil => .nil
  | _, _, .cons h t => .cons (.tup (SqT.of h) (.cons (.str _) (.cons (.str _) (.cons (.int _) .nil)))) (dps_qs t)
theorem wish_asc {w : Str} (h : w = rd ∨ w = wr) : Asc w := (word_asc (w := w) (by rcases h with rfl | rfl <;> decide)).1
theorem canLay_qs : ∀ l : List QE, (∀ e ∈ l, nameB e.who = true ∧ (e.wish = rd ∨ e.wish = wr)) → PyData.canLayAll0 (qsD l) = true
  | [], _ => by simp [qsD, PyData.canLayAll0]
  | e :: l, h => by
    have t := canLay_qs l fun b hb => h b (List.mem_cons_of_mem _ hb)
    have a1 := (nameB_is (h e List.mem_cons_self).1).2.2.asc.ok
    have a2 := (wish_asc (h e List.mem_cons_self).2).ok
    unfold qsD at t ⊢
    rw [List.map_cons]
    simp [PyData.canLayAll0, PyData.canLay0, t, a1, a2]
theorem depth_qs : ∀ l : List QE, PyData.depthAll (qsD l) ≤ 1
  | [] => by simp [qsD, PyData.depthAll]
  | e :: l => by
    have t := depth_qs l
    unfold qsD at t ⊢
    rw [List.map_cons]
    simp only [PyData.depthAll, PyData.depth]
    omega
theorem shaped_qs (l : List QE) (h : ∀ e ∈ l, nameB e.who = true ∧ (e.wish = rd ∨ e.wish = wr)) : SeqAt.shaped (.list (qsD l)) = true := by
  have a := canLay_qs l h
  have b := depth_qs l
  unfold SeqAt.shaped
  rw [show PyData.canLay0 (.list (qsD l)) = PyData.canLayAll0 (qsD l) by simp [PyData.canLay0], a, Bool.true_and]
  refine decide_eq_true ?_
  simp only [PyData.depth]
  omega
theorem eqv_strs : ∀ l m : List Str, PyData.eqvAll (l.map PyData.str) (m.map PyData.str) = decide (l = m)
  | [], [] => by simp [PyData.eqvAll]
  | [], _ :: _ => by simp [PyData.eqvAll]
  | _ :: _, [] => by simp [PyData.eqvAll]
  | a :: l, b :: m => by
    have t := eqv_strs l m
    rw [List.map_cons, List.map_cons]
    simp only [PyData.eqvAll, PyData.eqv, t]
    rw [Bool.eq_iff_iff]
    simp
theorem eqv_strL (l m : List Str) : PyData.eqv (.list (l.map PyData.str)) (.list (m.map PyData.str)) = decide (l = m) := by
  rw [PyData.eqv]
  exact eqv_strs l m
section
variable {K : PySem.W.Frag} {σ : L2.St} {H H' : Hp} {t1 t2 t3 : TE} {c1 c2 : TT} {x y z v : V} {D : Ends} {u1 u2 : TS}
/-- dict(d) -/
theorem r_dict {p : Addr} {kvs : List (Key × V)} (h : Vl t1 σ H (.ref p)) (hd : H p = some (.dK kvs)) :
    Vr (tCB (fun xs H Q => ∃ (a : Addr) (kvs : List (Key × V)), xs = [.ref a] ∧ Rd H a (.dK kvs) ∧ ∀ p, H p = none → Q (.ref p) (upd H p (.dK kvs))) (tCons t1 tNil)) σ H (fun v H1 => ∃ n, v = .ref n ∧ H n = none ∧ H1 n = some (.dK kvs)) :=
  fun H1 Q g q => h H1 _ g fun H2 g2 => ⟨p, kvs, rfl, .inl ((g.trans g2).dK hd), fun n hn => q _ _ (g2.trans (.new hn)) ⟨n, rfl, (g.trans g2).free hn, upd_same⟩⟩
/-- xs + [(..)] -/
theorem r_catU {p : Addr} {xs ts : List V} (h : Vl t1 σ H (.ref p)) (hp : H p = some (.lst xs)) (h2 : Tu t2 σ H ts) (n : xs.length ≤ 50000) :
    Vr (tOp rCat t1 (tLst (tCons t2 tNil))) σ H (fun v H1 => ∃ l t, v = .ref l ∧ H l = none ∧ H1 l = some (.lst (xs ++ [.ref t])) ∧ H1 t = some (.tup ts)) :=
  fun H1 Q g q => h H1 _ g fun H2 g2 => h2 H2 _ (g.trans g2) fun t H3 ht g3 e3 => ⟨small (show 1 ≤ 100000 by decide), fun l hl => ⟨p, l, xs, [.ref t], rfl, rfl, (upd_ne (ne_of_none (((g.trans g2).trans g3).lst hp) hl)).trans (((g.trans g2).trans g3).lst hp), upd_same, small (show xs.length + 1 ≤ 100000 by omega), fun l2 hl2 =>
    q _ _ ((g2.trans g3).trans ((Gr.new hl).trans (.new hl2))) ⟨l2, t, rfl, ((g.trans g2).trans g3).free ((Gr.new hl).free hl2), upd_same, ((Gr.new hl).trans (.new hl2)).tup e3⟩⟩⟩
/-- xs + ys, both known -/
theorem r_cat {p : Addr} {xs ys : List V} {R : List V → Hp → Prop} (h : Vl t1 σ H (.ref p)) (hp : H p = some (.lst xs)) (h2 : Ls t2 σ H ys) (n : xs.length + ys.length ≤ 100000) :
    Vr (tOp rCat t1 t2) σ H (fun v H1 => ∃ l, v = .ref l ∧ H l = none ∧ H1 l = some (.lst (xs ++ ys))) :=
  fun H1 Q g q => h H1 _ g fun H2 g2 => h2 H2 _ (g.trans g2) fun b H3 hb g3 e3 => ⟨p, b, xs, ys, rfl, rfl, ((g.trans g2).trans g3).lst hp, e3, small n, fun l hl =>
    q _ _ ((g2.trans g3).trans (.new hl)) ⟨l, rfl, ((g.trans g2).trans g3).free hl, upd_same⟩⟩
theorem Ls.toN {xs : List V} (h : Ls t1 σ H xs) : Vr t1 σ H (fun v H1 => ∃ l, v = .ref l ∧ H l = none ∧ H1 l = some (.lst xs)) := fun H1 Q g q => h H1 Q g fun p H2 hp g2 e => q _ H2 g2 ⟨p, rfl, g.free hp, e⟩
end
/-- what a comprehension that keeps some items leaves: filter -/
theorem kept {α : Type} {f : α → List V} {H : Hp} {xs : List V} {l : List α} (t : TupsAt H f xs l) (p : α → Bool) (g : Nat → Bool) (val : Nat → V) (hg : ∀ m e, l[m]? = some e → g m = p e) (hv : ∀ m u, xs[m]? = some u → val m = u) : TupsAt H f (out l.length g val) (l.filter p) := by
  have key : ∀ n, n ≤ l.length → TupsAt H f (out n g val) ((l.take n).filter p) := by
    intro n
    induction n with
    | zero => exact fun _ => .nil
    | succ n ih =>
      intro hn
      obtain ⟨pt, hpt, ht⟩ := t.get n (List.getElem?_eq_getElem (show n < l.length by omega))
      rw [out_succ, List.take_succ, List.getElem?_eq_getElem (show n < l.length by omega), Option.toList_some, List.filter_append, hg n _ (List.getElem?_eq_getElem (show n < l.length by omega)), hv n _ hpt, List.filter_cons]
      cases p l[n]
      · exact (ih (by omega)).app .nil
      · exact (ih (by omega)).app (.cons ht .nil)
  have := key l.length (Nat.le_refl _)
  rw [List.take_length] at this
  exact this
section
variable {K : PySem.W.Frag} {σ : L2.St} {H H' : Hp} {t1 t2 t3 : TE}
/-- a comprehension that makes a tuple of each tuple of a list -/
theorem r_cmpT {α β : Type} {f : α → List V} {g : β → List V} {F : α → β} {xs : List V} {l : List α} {j : Nat} {ws : List Nat} (h : Ls t2 σ H xs) (tx : TupsAt H f xs l) (hz : xs.length ≤ 40000) (hw : ∀ x, wipe ((wipe σ ws).set j (some x)) ws = wipe σ ws)
    (he : ∀ (p : Addr) (a : α) H1, Gr H H1 → H1 p = some (.tup (f a)) → Tu t1 ((wipe σ ws).set j (some (.ref p))) H1 (g (F a))) :
    Vr (tLc (iList K t2) (gName j) tYes t1 ws) σ H (fun v H1 => ∃ la ya, v = .ref la ∧ H la = none ∧ H1 la = some (.lst ya) ∧ TupsAt H1 g ya (l.map F)) := fun H0 Q gr q => h H0 _ gr fun a H1 ha g1 hx => ⟨a, rfl, ⟨xs, SqL.of hx⟩, fun p hp =>
  lc_list (xs := xs) (fun m H' => H1 p = none ∧ Gr H1 H' ∧ ∃ ya, H' p = some (.lst ya) ∧ TupsAt H' g ya ((l.take m).map F)) ⟨hp, .new hp, [], upd_same, .nil⟩ (fun _ H' _ w => SqL.of (w.2.1.lst hx)) (fun m x H' hm ⟨w1, w2, ya, w3, w4⟩ => by
    have hm' : m < l.length := by
      have := (List.getElem?_eq_some_iff.mp hm).1
      have := tx.length
      omega
    obtain ⟨pt, hpt, ht⟩ := tx.get m (List.getElem?_eq_getElem hm')
    rw [hm] at hpt
    obtain rfl := Option.some.inj hpt
    have gg := (gr.trans g1).trans w2
    have ly := w4.length
    rw [List.length_map, List.length_take] at ly
    have lxx := tx.length
    refine ⟨hw _, s_yes H' _ (.refl _) fun H3 g3 => iteT (he pt l[m] H3 (gg.trans g3) ((gg.trans g3).tup ht) H3 _ (.refl _) fun t H4 _ g4 e4 => ⟨ya, g4.lst (g3.lst w3), small' (by omega), w1, ((w2.trans g3).trans g4).chg w1, ya ++ [.ref t], upd_same, ?_⟩)⟩
    have hp4 := g4.lst (g3.lst w3)
    rw [List.take_succ, List.getElem?_eq_getElem hm', Option.toList_some, List.map_append]
    exact ((w4.mono (g3.trans g4)).chg fun ts z => by rw [hp4] at z; cases z).snoc ((upd_ne fun z => by rw [z, hp4] at e4; cases e4).trans e4)) fun H' ⟨w1, w2, ya, w3, w4⟩ => q _ H' (g1.trans w2) ⟨p, ya, rfl, (gr.trans g1).free w1, w3, by
      rw [List.take_of_length_le (by rw [tx.length]; exact Nat.le_refl _)] at w4
      exact w4⟩⟩
end
section
variable {K : PySem.W.Frag} {σ : L2.St} {H H' : Hp} {t1 t2 t3 : TE} {a1 : TA}
/-- the turns of a comprehension that makes a tuple each -/
def CmpU {β : Type} (H : Hp) (g : β → List V) (F : Nat → β) (p : Addr) (m : Nat) (H' : Hp) : Prop := H p = none ∧ Gr H H' ∧ ∃ ya, H' p = some (.lst ya) ∧ TupsAt H' g ya ((List.range m).map F)
theorem CmpU.turn {β : Type} {g : β → List V} {F : Nat → β} {p : Addr} {m : Nat} {σ2 : L2.St} (w : CmpU H g F p m H') (hm : m < 50000) (he : ∀ H1, Gr H H1 → Tu t1 σ2 H1 (g (F m))) :
    tYes σ2 H' fun b H3 => if b = true then t1 σ2 H3 fun y H4 => ∃ acc, H4 p = some (.lst acc) ∧ acc.length < sizeLine ∧ CmpU H g F p (m + 1) (upd H4 p (.lst (acc ++ [y]))) else CmpU H g F p (m + 1) H3 := by
  obtain ⟨w1, w2, ya, w3, w4⟩ := w
  have ly := w4.length
  rw [List.length_map, List.length_range] at ly
  refine s_yes H' _ (.refl _) fun H3 g3 => iteT (he H3 (w2.trans g3) H3 _ (.refl _) fun t H4 _ g4 e4 => ⟨ya, g4.lst (g3.lst w3), small' (by omega), w1, ((w2.trans g3).trans g4).chg w1, ya ++ [.ref t], upd_same, ?_⟩)
  have hp4 := g4.lst (g3.lst w3)
  rw [List.range_succ, List.map_append]
  exact ((w4.mono (g3.trans g4)).chg fun ts z => by rw [hp4] at z; cases z).snoc ((upd_ne fun z => by rw [z, hp4] at e4; cases e4).trans e4)
theorem r_cmpI {β : Type} {g : β → List V} (F : Nat → β) {n : Int} {j : Nat} {ws : List Nat} (h : Ag a1 σ H [.int n]) (hn : 0 ≤ n ∧ n ≤ 40000) (hw : ∀ x, wipe ((wipe σ ws).set j (some x)) ws = wipe σ ws)
    (he : ∀ (m : Nat) H1, Gr H H1 → (m : Int) < n → Tu t1 ((wipe σ ws).set j (some (.int (m : Int)))) H1 (g (F m))) :
    Vr (tLc (iRng1 a1) (gName j) tYes t1 ws) σ H (fun v H1 => ∃ la ya, v = .ref la ∧ H la = none ∧ H1 la = some (.lst ya) ∧ TupsAt H1 g ya ((List.range n.toNat).map F)) := fun H0 Q gr q => h H0 _ gr fun H1 g1 => ⟨n, rfl, by omega, by omega, fun p hp =>
  lc_range (lo := 0) (n := n.toNat) (CmpU H1 g F p) ⟨hp, .new hp, [], upd_same, .nil⟩ (fun m H' hm w => by
    have e : ∀ H2, Gr H1 H2 → Tu t1 ((wipe σ ws).set j (some (.int (0 + (m : Int))))) H2 (g (F m)) := fun H2 g2 => by
      rw [Int.zero_add]
      exact he m H2 ((gr.trans g1).trans g2) (by omega)
    exact ⟨hw _, w.turn (by omega) e⟩) fun H' ⟨w1, w2, ya, w3, w4⟩ => q _ H' (g1.trans w2) ⟨p, ya, rfl, (gr.trans g1).free w1, w3, w4⟩⟩
theorem r_cmpX {β : Type} {g : β → List V} (F : Nat → β) {a : Addr} {xs : List V} {j : Nat} {ws : List Nat} (h : Vl t2 σ H (.ref a)) (s : SqL K H a xs) (hz : xs.length ≤ 40000) (hw : ∀ x, wipe ((wipe σ ws).set j (some x)) ws = wipe σ ws)
    (he : ∀ (m : Nat) (x : V) H1, Gr H H1 → xs[m]? = some x → Tu t1 ((wipe σ ws).set j (some x)) H1 (g (F m))) :
    Vr (tLc (iList K t2) (gName j) tYes t1 ws) σ H (fun v H1 => ∃ la ya, v = .ref la ∧ H la = none ∧ H1 la = some (.lst ya) ∧ TupsAt H1 g ya ((List.range xs.length).map F)) := fun H0 Q gr q => h H0 _ gr fun H1 g1 => ⟨a, rfl, ⟨xs, (gr.trans g1).sl s⟩, fun p hp =>
  lc_list (xs := xs) (CmpU H1 g F p) ⟨hp, .new hp, [], upd_same, .nil⟩ (fun _ H' _ w => ((gr.trans g1).trans w.2.1).sl s) (fun m x H' hm w => ⟨hw x, w.turn (by have := (List.getElem?_eq_some_iff.mp hm).1; omega) fun H2 g2 => he m x H2 ((gr.trans g1).trans g2) hm⟩)
    fun H' ⟨w1, w2, ya, w3, w4⟩ => q _ H' (g1.trans w2) ⟨p, ya, rfl, (gr.trans g1).free w1, w3, w4⟩⟩
/-- [(..), (..)] -/
theorem r_lst2 {ts us : List V} (h : Tu t1 σ H ts) (h2 : Tu t2 σ H us) : Vr (tLst (tCons t1 (tCons t2 tNil))) σ H (fun v H1 => ∃ l a b, v = .ref l ∧ H l = none ∧ H1 l = some (.lst [.ref a, .ref b]) ∧ H1 a = some (.tup ts) ∧ H1 b = some (.tup us)) := fun H1 Q g q =>
  h H1 _ g fun a H2 _ g2 e2 => h2 H2 _ (g.trans g2) fun b H3 _ g3 e3 => ⟨small (show 2 ≤ 100000 by decide), fun l hl => q _ _ ((g2.trans g3).trans (.new hl)) ⟨l, a, b, rfl, ((g.trans g2).trans g3).free hl, upd_same, (Gr.new hl).tup (g3.tup e2), (Gr.new hl).tup e3⟩⟩
end
/-- the k-th deed -/
def spDeeds (K : PySem.W.Frag) : Sp := fun vs H Q _ => ∃ (a pn pd pp : Addr) (k : Nat) (ns : List Int) (s : Now) (ys : List V) (ds : List Deed) (ps : List Str), vs = [.ref a, .ref pn, .ref pd, .ref pp, .int k] ∧ SqL K H a (ns.map V.int) ∧ NowAt noL H pn s ∧ s.good ∧ H pd = some (.lst ys) ∧ TupsAt H Deed.vs ys ds ∧ (∀ d ∈ ds, d.good) ∧
  H pp = some (.lst (ps.map V.str)) ∧ 1 ≤ ps.length ∧ ps.length ≤ 1000 ∧ (∀ x ∈ ps, nameB x = true) ∧ (ds.length ≤ k → 6 + k - ds.length < ns.length) ∧ RR_ (fun v H1 => ∃ p d, v = .ref p ∧ H1 p = some (.tup (Deed.vs d)) ∧ d.good) H Q

section
--CUT
/-! ### heaps that change in some places only -/
def Ch (L : Addr → Prop) (H H' : Hp) : Prop := ∀ b o, H b = some o → (¬ L b → H' b = some o ∨ ∃ ps qs, o = HO.tbl ps ∧ H' b = some (.tbl qs) ∧ (TriplesOk ps.toList → TriplesOk qs.toList)) ∧ H' b ≠ none
namespace Ch
variable {L : Addr → Prop} {H H' H1 H2 : Hp} {a p : Addr}
theorem of (g : Gr H H') : Ch L H H' := fun b o h => ⟨fun _ => g b o h, fun z => by rcases g b o h with h1 | ⟨_, _, _, h1, _⟩ <;> (rw [z] at h1; cases h1)⟩
theorem refl (H : Hp) : Ch L H H := of (.refl H)
theorem trans (x : Ch L H H1) (y : Ch L H1 H2) : Ch L H H2 := by
  intro b o h
  obtain ⟨x1, x2⟩ := x b o h
  cases e : H1 b with
  | none => exact absurd e x2
  | some u =>
    obtain ⟨y1, y2⟩ := y b u e
    refine ⟨fun n => ?_, y2⟩
    rcases x1 n with h1 | ⟨ps, qs, rfl, h1, t1⟩
    · rw [e] at h1
      cases h1
      exact y1 n
    · rw [e] at h1
      cases h1
      rcases y1 n with h2 | ⟨ps', qs', e2, h2, t2⟩
      · exact .inr ⟨ps, qs, rfl, h2, t1⟩
      · cases e2
        exact .inr ⟨ps, qs', rfl, h2, fun t => t2 (t1 t)⟩
theorem gr (x : Ch L H H1) (g : Gr H1 H2) : Ch L H H2 := x.trans (.of g)
theorem put {o : HO} (x : Ch L H H') (h : L p) : Ch L H (upd H' p o) := by
  intro b u hb
  obtain ⟨x1, x2⟩ := x b u hb
  by_cases e : b = p
  · subst e
    exact ⟨fun n => absurd h n, fun z => by rw [upd_same] at z; cases z⟩
  · rw [upd_ne e]
    exact ⟨x1, x2⟩
theorem free (x : Ch L H H') (h : H' p = none) : H p = none := by
  cases e : H p with
  | none => rfl
  | some o => exact absurd h (x p o e).2
theorem chg {o : HO} (x : Ch L H H') (h : H p = none) : Ch L H (upd H' p o) := by
  intro b u hb
  have n : b ≠ p := ne_of_none hb h
  rw [upd_ne n]
  exact x b u hb
theorem at_ {o : HO} (x : Ch L H H') (h : H a = some o) (nl : ¬ L a) (n : ∀ ps, o ≠ .tbl ps) : H' a = some o := by
  rcases (x a o h).1 nl with h1 | ⟨ps, _, e, _⟩
  · exact h1
  · exact absurd e (n ps)
theorem lst {xs : List V} (x : Ch L H H') (h : H a = some (.lst xs)) (nl : ¬ L a) : H' a = some (.lst xs) := x.at_ h nl fun _ e => by cases e
theorem tup {xs : List V} (x : Ch L H H') (h : H a = some (.tup xs)) (nl : ¬ L a) : H' a = some (.tup xs) := x.at_ h nl fun _ e => by cases e
theorem dK {xs : List (Key × V)} (x : Ch L H H') (h : H a = some (.dK xs)) (nl : ¬ L a) : H' a = some (.dK xs) := x.at_ h nl fun _ e => by cases e
theorem ins {C d : Addr} {fs : List (Str × V)} (x : Ch L H H') (h : H a = some (.ins C d fs)) (nl : ¬ L a) : H' a = some (.ins C d fs) := x.at_ h nl fun _ e => by cases e
theorem tab {P : Addr} (x : Ch L H H') (h : GxR.TabG H P) (nl : ¬ L P) : GxR.TabG H' P := by
  obtain ⟨ps, h, t⟩ := h
  rcases (x P _ h).1 nl with h1 | ⟨ps', qs, e, h1, t1⟩
  · exact ⟨ps, h1, t⟩
  · cases e
    exact ⟨qs, h1, t1 t⟩
theorem mono {L' : Addr → Prop} (x : Ch L H H') (h : ∀ b, L b → L' b ∨ H b = none) : Ch L' H H' := fun b o hb => ⟨fun n => (x b o hb).1 fun l => (h b l).elim n fun z => (by rw [z] at hb; cases hb), (x b o hb).2⟩
theorem toGr (x : Ch L H H') (h : ∀ b, L b → H b = none) : Gr H H' := fun b o hb => (x b o hb).1 fun l => by rw [h b l] at hb; cases hb
theorem rd {u : HO} (x : Ch L H H') (h : Rd H a u) (nl : ¬ L a) (n : ∀ ps, u ≠ .tbl ps) : Rd H' a u := by
  rcases h with h | ⟨o, h⟩
  · exact .inl (x.at_ h nl n)
  · exact .inr ⟨o, x.at_ h nl fun _ e => by cases e⟩
theorem sl {K : PySem.W.Frag} {xs : List V} (x : Ch L H H') (h : SqL K H a xs) (nl : ¬ L a) : SqL K H' a xs := by
  rcases h with h | h
  · exact .inl (x.rd h nl fun _ e => by cases e)
  · exact .inr h
end Ch
theorem TupsAt.ch {α : Type} {f : α → List V} {L : Addr → Prop} {H H' : Hp} (x : Ch L H H') (n : ∀ b, L b → ∀ ts, H b ≠ some (.tup ts)) : ∀ {vs : List V} {l : List α}, TupsAt H f vs l → TupsAt H' f vs l
  | _, _, .nil => .nil
  | _, _, .cons h t => .cons (x.tup h fun l => n _ l _ h) (TupsAt.ch x n t)
/-! ### the room -/
structure RAd where
  dx : Addr
  rd : Addr
  ln : Addr
  rw : Addr
def rfs (seats pat : Int) (a : RAd) (al ak : V) : List (Str × V) := [("seats", .int seats), ("patience", .int pat), ("_readers", .ref a.rd), ("_writer", al), ("_asker", ak), ("_line", .ref a.ln), ("_rows", .ref a.rw)]
theorem rfs_len {seats pat : Int} {a : RAd} {al ak : V} : (rfs seats pat a al ak).length = 7 := rfl
theorem rfs_alone {seats pat : Int} {a : RAd} {al ak v : V} : putF "_writer" v (rfs seats pat a al ak) = rfs seats pat a v ak := by
  have h1 : (("seats" : Str) = "_writer") = False := eq_false (by decide +kernel)
  have h2 : (("patience" : Str) = "_writer") = False := eq_false (by decide +kernel)
  have h3 : (("_readers" : Str) = "_writer") = False := eq_false (by decide +kernel)
  simp [putF, rfs, h1, h2, h3]
theorem rfs_asked {seats pat : Int} {a : RAd} {al ak v : V} : putF "_asker" v (rfs seats pat a al ak) = rfs seats pat a al v := by
  have h1 : (("seats" : Str) = "_asker") = False := eq_false (by decide +kernel)
  have h2 : (("patience" : Str) = "_asker") = False := eq_false (by decide +kernel)
  have h3 : (("_readers" : Str) = "_asker") = False := eq_false (by decide +kernel)
  have h4 : (("_writer" : Str) = "_asker") = False := eq_false (by decide +kernel)
  simp [putF, rfs, h1, h2, h3, h4]
def rdD (l : List Str) : List (Key × V) := l.map fun x => ((.inr x : Key), V.bl true)
theorem rdD_keys (l : List Str) : (rdD l).map (fun kv => kV kv.1) = l.map V.str := by
  unfold rdD
  rw [List.map_map]
  rfl
theorem rdD_get (l : List Str) (n : Str) : (valV (rdD l) (.inr n : Key)).isSome = decide (n ∈ l) := by
  induction l with
  | nil => rfl
  | cons x l ih =>
    by_cases e : x = n
    · subst e
      rw [show rdD (x :: l) = ((.inr x : Key), V.bl true) :: rdD l from rfl, valV_pos (p := ((.inr x : Key), V.bl true)) rfl]
      simp
    · rw [show rdD (x :: l) = ((.inr x : Key), V.bl true) :: rdD l from rfl, valV_neg (p := ((.inr x : Key), V.bl true)) (fun z => e (Sum.inr.inj z)), ih]
      simp [List.mem_cons, Ne.symm e]
theorem rdD_put (l : List Str) (n : Str) (h : n ∉ l) : putK (rdD l) (.inr n : Key) (.bl true) = rdD (l ++ [n]) := by
  unfold putK
  rw [if_neg]
  · unfold rdD
    rw [List.map_append]
    rfl
  · intro z
    obtain ⟨kv, hk, e⟩ := List.any_eq_true.mp z
    obtain ⟨x, hx, rfl⟩ := List.mem_map.mp hk
    have := Sum.inr.inj (of_decide_eq_true e)
    exact h (this ▸ hx)
theorem rdD_drop (l : List Str) (n : Str) : dropK (rdD l) (.inr n : Key) = rdD (l.filter fun x => decide (x ≠ n)) := by
  unfold dropK rdD
  rw [List.filter_map]
  congr 1
  refine List.filter_congr fun x _ => ?_
  exact decide_eq_decide.mpr ⟨fun z w => z (congrArg _ w), fun z w => z (Sum.inr.inj w)⟩
structure RoomAt (K : PySem.W.Frag) (P : Addr) (H : Hp) (p : Addr) (a : RAd) (seats pat : Int) (s : Now) (rows : List JRow) : Prop where
  ins : H p = some (.ins (He.ga K "Room") a.dx (rfs seats pat a (optV s.alone) (optV s.asked)))
  dict : H a.rd = some (.dK (rdD s.reading))
  line : ∃ xs, H a.ln = some (.lst xs) ∧ TupsAt H QE.vs xs s.queue
  book : ∃ ys, H a.rw = some (.lst ys) ∧ TupsAt H JRow.vs ys rows
  ne : a.ln ≠ a.rw
  tab : GxR.TabG H P
/-- the places that a room's deeds may change -/
def Fp (p : Addr) (a : RAd) (x : Addr) : Prop := x = p ∨ x = a.rd ∨ x = a.ln ∨ x = a.rw
namespace RoomAt
variable {K : PySem.W.Frag} {P p : Addr} {H H' : Hp} {a : RAd} {seats pat : Int} {s : Now} {rows : List JRow}
theorem mono (g : Gr H H') (r : RoomAt K P H p a seats pat s rows) : RoomAt K P H' p a seats pat s rows :=
  ⟨g.ins r.ins, g.dK r.dict, let ⟨xs, h, t⟩ := r.line; ⟨xs, g.lst h, t.mono g⟩, let ⟨ys, h, t⟩ := r.book; ⟨ys, g.lst h, t.mono g⟩, r.ne, g.tab r.tab⟩
theorem some_ (r : RoomAt K P H p a seats pat s rows) {b : Addr} (h : Fp p a b) : ∃ o, H b = some o ∧ (∀ ts, o ≠ .tup ts) ∧ ∀ ps, o ≠ .tbl ps := by
  obtain ⟨xs, hx, _⟩ := r.line
  obtain ⟨ys, hy, _⟩ := r.book
  rcases h with rfl | rfl | rfl | rfl
  · exact ⟨_, r.ins, fun _ e => (by cases e), fun _ e => (by cases e)⟩
  · exact ⟨_, r.dict, fun _ e => (by cases e), fun _ e => (by cases e)⟩
  · exact ⟨_, hx, fun _ e => (by cases e), fun _ e => (by cases e)⟩
  · exact ⟨_, hy, fun _ e => (by cases e), fun _ e => (by cases e)⟩
theorem out (r : RoomAt K P H p a seats pat s rows) {b : Addr} (h : H b = none) : ¬ Fp p a b := fun f => by
  obtain ⟨o, e, _⟩ := r.some_ f
  rw [h] at e
  cases e
theorem noTup (r : RoomAt K P H p a seats pat s rows) : ∀ b, Fp p a b → ∀ ts, H b ≠ some (.tup ts) := fun b h ts e => by
  obtain ⟨o, e2, n, _⟩ := r.some_ h
  rw [e2] at e
  exact n ts (Option.some.inj e)
theorem noTab (r : RoomAt K P H p a seats pat s rows) : ¬ Fp p a P := fun h => by
  obtain ⟨o, e2, _, n⟩ := r.some_ h
  obtain ⟨ps, e, _⟩ := r.tab
  rw [e2] at e
  exact n ps (Option.some.inj e)
theorem tup (r : RoomAt K P H p a seats pat s rows) (c : Ch (Fp p a) H H') {b : Addr} {ts : List V} (h : H b = some (.tup ts)) : H' b = some (.tup ts) := c.tup h fun f => r.noTup b f ts h
theorem rd_p (r : RoomAt K P H p a seats pat s rows) : a.rd ≠ p := fun z => by have := r.dict; rw [z, r.ins] at this; cases this
theorem ln_p (r : RoomAt K P H p a seats pat s rows) : a.ln ≠ p := fun z => by obtain ⟨xs, h, _⟩ := r.line; rw [z, r.ins] at h; cases h
theorem rw_p (r : RoomAt K P H p a seats pat s rows) : a.rw ≠ p := fun z => by obtain ⟨xs, h, _⟩ := r.book; rw [z, r.ins] at h; cases h
theorem rd_ln (r : RoomAt K P H p a seats pat s rows) : a.rd ≠ a.ln := fun z => by obtain ⟨xs, h, _⟩ := r.line; rw [← z, r.dict] at h; cases h
theorem rd_rw (r : RoomAt K P H p a seats pat s rows) : a.rd ≠ a.rw := fun z => by obtain ⟨xs, h, _⟩ := r.book; rw [← z, r.dict] at h; cases h
theorem tabU (r : RoomAt K P H p a seats pat s rows) {b : Addr} {o : HO} (h : Fp p a b) : GxR.TabG (upd H b o) P := by
  obtain ⟨ps, e, t⟩ := r.tab
  exact ⟨ps, (upd_ne fun z => r.noTab (by rw [z]; exact h)).trans e, t⟩
theorem tupsU (r : RoomAt K P H p a seats pat s rows) {b : Addr} {o : HO} (h : Fp p a b) {α : Type} {f : α → List V} {vs : List V} {l : List α} (t : TupsAt H f vs l) : TupsAt (upd H b o) f vs l := t.chg (r.noTup b h)
/-- the fields changed -/
theorem setI (r : RoomAt K P H p a seats pat s rows) (al ak : Option Str) : RoomAt K P (upd H p (.ins (He.ga K "Room") a.dx (rfs seats pat a (optV al) (optV ak)))) p a seats pat { s with alone := al, asked := ak } rows := by
  obtain ⟨xs, hx, tx⟩ := r.line
  obtain ⟨ys, hy, ty⟩ := r.book
  exact ⟨upd_same, (upd_ne r.rd_p).trans r.dict, ⟨xs, (upd_ne r.ln_p).trans hx, r.tupsU (.inl rfl) tx⟩, ⟨ys, (upd_ne r.rw_p).trans hy, r.tupsU (.inl rfl) ty⟩, r.ne, r.tabU (.inl rfl)⟩
/-- the readers changed -/
theorem setR (r : RoomAt K P H p a seats pat s rows) (l : List Str) : RoomAt K P (upd H a.rd (.dK (rdD l))) p a seats pat { s with reading := l } rows := by
  obtain ⟨xs, hx, tx⟩ := r.line
  obtain ⟨ys, hy, ty⟩ := r.book
  have f : Fp p a a.rd := .inr (.inl rfl)
  exact ⟨(upd_ne r.rd_p.symm).trans r.ins, upd_same, ⟨xs, (upd_ne r.rd_ln.symm).trans hx, r.tupsU f tx⟩, ⟨ys, (upd_ne r.rd_rw.symm).trans hy, r.tupsU f ty⟩, r.ne, r.tabU f⟩
/-- the line changed -/
theorem setL (r : RoomAt K P H p a seats pat s rows) {xs : List V} {l : List QE} (t : TupsAt H QE.vs xs l) : RoomAt K P (upd H a.ln (.lst xs)) p a seats pat { s with queue := l } rows := by
  obtain ⟨ys, hy, ty⟩ := r.book
  have f : Fp p a a.ln := .inr (.inr (.inl rfl))
  exact ⟨(upd_ne r.ln_p.symm).trans r.ins, (upd_ne r.rd_ln).trans r.dict, ⟨xs, upd_same, r.tupsU f t⟩, ⟨ys, (upd_ne r.ne.symm).trans hy, r.tupsU f ty⟩, r.ne, r.tabU f⟩
/-- the journal changed -/
theorem setB (r : RoomAt K P H p a seats pat s rows) {ys : List V} {l : List JRow} (t : TupsAt H JRow.vs ys l) : RoomAt K P (upd H a.rw (.lst ys)) p a seats pat s l := by
  obtain ⟨xs, hx, tx⟩ := r.line
  have f : Fp p a a.rw := .inr (.inr (.inr rfl))
  exact ⟨(upd_ne r.rw_p.symm).trans r.ins, (upd_ne r.rd_rw).trans r.dict, ⟨xs, (upd_ne r.ne).trans hx, r.tupsU f tx⟩, ⟨ys, upd_same, r.tupsU f t⟩, r.ne, r.tabU f⟩
end RoomAt

/-! ### who begins, one after another -/
theorem rdNe : ¬ rd = wr := by decide +kernel
theorem wrNe : ¬ wr = rd := by decide +kernel
def Now.pr (s : Now) (i : Int) : Str × Str := if i < 0 then (s.asked.getD "", wr) else match s.queue[i.toNat]? with
  | some e => (e.who, e.wish)
  | .none => ("", "")
inductive Settles (seats pat : Int) : Now → List (Str × Str) → Now → Prop
  | stop {s : Now} : s.next seats pat = .none → Settles seats pat s [] s
  | step {s s' : Now} {i : Int} {l : List (Str × Str)} : s.next seats pat = some i → Settles seats pat (s.began i) l s' → Settles seats pat s (s.pr i :: l) s'
theorem Settles.eq {seats pat : Int} {s s1 : Now} {l1 : List (Str × Str)} (h : Settles seats pat s l1 s1) : ∀ {s2 : Now} {l2 : List (Str × Str)}, Settles seats pat s l2 s2 → l1 = l2 ∧ s1 = s2 := by
  induction h with
  | stop e =>
    intro s2 l2 k
    cases k with
    | stop _ => exact ⟨rfl, rfl⟩
    | step e2 _ => rw [e] at e2; cases e2
  | step e _ ih =>
    intro s2 l2 k
    cases k with
    | stop e2 => rw [e] at e2; cases e2
    | step e2 k2 =>
      rw [e] at e2
      cases e2
      obtain ⟨a, b⟩ := ih k2
      exact ⟨by rw [a], b⟩
theorem Settles.rest {seats pat : Int} {s s' : Now} {l : List (Str × Str)} (h : Settles seats pat s l s') : s'.next seats pat = .none := by
  induction h with
  | stop e => exact e
  | step _ _ ih => exact ih
structure Now.ok (s : Now) : Prop where
  qn : ∀ e ∈ s.queue, nameB e.who = true ∧ (e.wish = rd ∨ e.wish = wr)
  rn : ∀ x ∈ s.reading, nameB x = true
  an : ∀ x, s.alone = some x → nameB x = true
  nd : (s.reading ++ s.queue.map QE.who).Nodup
  ad : ∀ x, s.alone = some x → s.reading = [] ∧ x ∉ s.queue.map QE.who
  ka : ∀ x, s.asked = some x → x ∈ s.reading
theorem scan_at {pat : Int} : ∀ {l : List QE} {k m : Nat}, scan pat l k = some m → ∃ j e, m = k + j ∧ l[j]? = some e ∧ e.wish = rd ∧ ∀ i u, i < j → l[i]? = some u → u.wish ≠ rd ∧ (u.often : Int) < pat
  | [], _, _, h => by cases h
  | e :: l, k, m, h => by
    unfold scan at h
    by_cases h1 : e.wish = rd
    · rw [if_pos h1] at h
      cases h
      exact ⟨0, e, rfl, rfl, h1, fun i u hi => absurd hi (Nat.not_lt_zero _)⟩
    · rw [if_neg h1] at h
      by_cases h2 : pat ≤ (e.often : Int)
      · rw [if_pos h2] at h
        cases h
      · rw [if_neg h2] at h
        obtain ⟨j, e', rfl, hj, hw, hb⟩ := scan_at h
        refine ⟨j + 1, e', by omega, hj, hw, fun i u hi hu => ?_⟩
        cases i with
        | zero =>
          cases hu
          exact ⟨h1, by omega⟩
        | succ i => exact hb i u (by omega) hu
/-- whom the next rule lets begin -/
theorem next_cases {s : Now} {seats pat i : Int} (h : s.next seats pat = some i) (hq : ∀ e ∈ s.queue, e.wish = rd ∨ e.wish = wr) : (i = -1 ∧ ∃ a, s.asked = some a ∧ s.reading = [a]) ∨
    ∃ (m : Nat) (e : QE), i = m ∧ s.queue[m]? = some e ∧ s.asked = none ∧ s.alone = none ∧ ((e.wish = rd ∧ (s.reading.length : Int) < seats) ∨ (e.wish = wr ∧ m = 0 ∧ s.reading = [])) ∧ (∀ j u, j < m → s.queue[j]? = some u → u.wish = wr ∧ (u.often : Int) < pat) ∧ (0 < m → s.reading ≠ []) := by
  unfold Now.next at h
  cases ha : s.asked with
  | some a =>
    rw [ha] at h
    by_cases h1 : s.reading = [a]
    · simp only [h1, if_true, Option.some.injEq] at h
      exact .inl ⟨h.symm, a, rfl, h1⟩
    · simp only [h1, if_false] at h
      cases h
  | none =>
    rw [ha] at h
    cases hl : s.queue with
    | nil => rw [hl] at h; cases h
    | cons e l =>
      rw [hl] at h
      dsimp only at h
      by_cases h1 : s.alone = none
      · rw [if_neg (fun z => z h1)] at h
        by_cases h2 : e.wish = wr ∧ s.reading = []
        · rw [if_pos h2] at h
          cases h
          exact .inr ⟨0, e, rfl, rfl, rfl, h1, .inr ⟨h2.1, rfl, h2.2⟩, fun j u hj => absurd hj (Nat.not_lt_zero _), fun z => absurd z (Nat.lt_irrefl _)⟩
        · rw [if_neg h2] at h
          by_cases h3 : seats ≤ (s.reading.length : Int)
          · rw [if_pos h3] at h
            cases h
          · rw [if_neg h3] at h
            cases hs : scan pat (e :: l) 0 with
            | none => rw [hs] at h; cases h
            | some m =>
              rw [hs] at h
              cases h
              obtain ⟨j, e', rfl, hj, hw, hb⟩ := scan_at hs
              rw [Nat.zero_add]
              refine .inr ⟨j, e', rfl, hj, rfl, h1, .inl ⟨hw, by omega⟩, fun i u hi hu => ?_, fun hp z => ?_⟩
              · obtain ⟨n1, n2⟩ := hb i u hi hu
                exact ⟨(hq u (hl ▸ List.mem_of_getElem? hu)).resolve_left n1, n2⟩
              · obtain ⟨n1, _⟩ := hb 0 e hp rfl
                exact h2 ⟨(hq e (hl ▸ List.mem_cons_self)).resolve_left n1, z⟩
      · rw [if_pos h1] at h
        cases h
theorem began_ask {s : Now} : s.began (-1) = { s with alone := s.asked, asked := .none, reading := [] } := rfl
theorem began_at {s : Now} {m : Nat} {e : QE} (h : s.queue[m]? = some e) : s.began (m : Int) = if e.wish = rd then { s with queue := (s.queue.take m).map QE.bump ++ s.queue.drop (m + 1), reading := s.reading ++ [e.who] } else { s with queue := (s.queue.take m).map QE.bump ++ s.queue.drop (m + 1), alone := some e.who } := by
  unfold Now.began
  rw [if_neg (by omega), Int.toNat_natCast, h]
theorem pr_ask {s : Now} {a : Str} (h : s.asked = some a) : s.pr (-1) = (a, wr) := by
  unfold Now.pr
  rw [if_pos (by decide), h]
  rfl
theorem pr_at {s : Now} {m : Nat} {e : QE} (h : s.queue[m]? = some e) : s.pr (m : Int) = (e.who, e.wish) := by
  unfold Now.pr
  rw [if_neg (by omega), Int.toNat_natCast, h]
theorem who_bump (l : List QE) : (l.map QE.bump).map QE.who = l.map QE.who := by
  rw [List.map_map]
  rfl
theorem who_cut (l : List QE) (m : Nat) : ((l.take m).map QE.bump ++ l.drop (m + 1)).map QE.who = (l.map QE.who).eraseIdx m := by
  rw [List.map_append, who_bump, List.eraseIdx_eq_take_drop_succ, List.map_take, List.map_drop]
theorem cut_mem {l : List QE} {m : Nat} {e : QE} (h : e ∈ (l.take m).map QE.bump ++ l.drop (m + 1)) : ∃ u ∈ l, e.who = u.who ∧ e.wish = u.wish := by
  rcases List.mem_append.mp h with z | z
  · obtain ⟨u, hu, rfl⟩ := List.mem_map.mp z
    exact ⟨u, List.mem_of_mem_take hu, rfl, rfl⟩
  · exact ⟨e, List.mem_of_mem_drop z, rfl, rfl⟩
/-- what begins keeps the room in order -/
theorem Now.ok.began {s : Now} {seats pat i : Int} (o : s.ok) (h : s.next seats pat = some i) : (s.began i).ok := by
  rcases next_cases h fun e he => (o.qn e he).2 with ⟨rfl, a, ha, hr⟩ | ⟨m, e, rfl, he, hk, hal, hw, _, _⟩
  · rw [began_ask]
    have nd := o.nd
    rw [hr] at nd
    have nd' := List.nodup_cons.mp nd
    refine ⟨o.qn, fun x hx => absurd hx List.not_mem_nil, fun x hx => ?_, nd'.2, fun x hx => ⟨rfl, ?_⟩, fun x hx => by cases hx⟩
    · exact o.rn x (o.ka x hx)
    · have hx' : s.asked = some x := hx
      rw [ha] at hx'
      cases hx'
      exact nd'.1
  · rw [began_at he]
    have hm := (List.getElem?_eq_some_iff.mp he).1
    have em := o.qn e (List.mem_of_getElem? he)
    have eg : (s.queue.map QE.who)[m]? = some e.who := by rw [List.getElem?_map, he]; rfl
    obtain ⟨hm', eg'⟩ := List.getElem?_eq_some_iff.mp eg
    have pm : (e.who :: (s.queue.map QE.who).eraseIdx m).Perm (s.queue.map QE.who) := by
      have e3 : s.queue.map QE.who = (s.queue.map QE.who).take m ++ e.who :: (s.queue.map QE.who).drop (m + 1) := by
        rw [← eg', ← List.drop_eq_getElem_cons hm', List.take_append_drop]
      rw [List.eraseIdx_eq_take_drop_succ]
      exact List.perm_middle.symm.trans (List.Perm.of_eq e3.symm)
    rcases hw with ⟨w, _⟩ | ⟨w, rfl, hr⟩
    · rw [if_pos w]
      refine ⟨fun u hu => ?_, fun x hx => ?_, fun x hx => ?_, ?_, fun x hx => ?_, fun x hx => ?_⟩
      · obtain ⟨v, hv, e1, e2⟩ := cut_mem hu
        rw [e1, e2]
        exact o.qn v hv
      · rcases List.mem_append.mp hx with z | z
        · exact o.rn x z
        · rw [List.mem_singleton.mp z]
          exact em.1
      · have hx' : s.alone = some x := hx
        rw [hal] at hx'
        cases hx'
      · show ((s.reading ++ [e.who]) ++ ((s.queue.take m).map QE.bump ++ s.queue.drop (m + 1)).map QE.who).Nodup
        rw [who_cut, List.append_assoc]
        exact (List.Perm.append_left s.reading pm).nodup_iff.mpr o.nd
      · have hx' : s.alone = some x := hx
        rw [hal] at hx'
        cases hx'
      · have hx' : s.asked = some x := hx
        rw [hk] at hx'
        cases hx'
    · rw [if_neg (fun z => wrNe (w.symm.trans z))]
      refine ⟨fun u hu => ?_, o.rn, fun x hx => ?_, ?_, fun x hx => ⟨hr, ?_⟩, fun x hx => ?_⟩
      · obtain ⟨v, hv, e1, e2⟩ := cut_mem hu
        rw [e1, e2]
        exact o.qn v hv
      · cases hx
        exact em.1
      · show (s.reading ++ ((s.queue.take 0).map QE.bump ++ s.queue.drop (0 + 1)).map QE.who).Nodup
        have nd := o.nd
        rw [who_cut, hr, List.nil_append]
        rw [hr, List.nil_append] at nd
        exact (List.nodup_cons.mp (pm.nodup_iff.mpr nd)).2
      · have hx' : some e.who = some x := hx
        cases hx'
        show e.who ∉ ((s.queue.take 0).map QE.bump ++ s.queue.drop (0 + 1)).map QE.who
        have nd := o.nd
        rw [hr, List.nil_append] at nd
        rw [who_cut]
        exact (List.nodup_cons.mp (pm.nodup_iff.mpr nd)).1
      · have hx' : s.asked = some x := hx
        rw [hk] at hx'
        cases hx'
/-- how many may yet begin -/
def optN {α : Type} : Option α → Nat
  | .none => 0
  | some _ => 1
def Now.left (s : Now) : Nat := s.queue.length + optN s.asked
theorem cut_length {l : List QE} {m : Nat} (h : m < l.length) : ((l.take m).map QE.bump ++ l.drop (m + 1)).length + 1 = l.length := by
  rw [List.length_append, List.length_map, List.length_take, List.length_drop]
  omega
theorem Now.began_left {s : Now} {seats pat i : Int} (o : s.ok) (h : s.next seats pat = some i) : (s.began i).left + 1 = s.left := by
  rcases next_cases h fun e he => (o.qn e he).2 with ⟨rfl, a, ha, hr⟩ | ⟨m, e, rfl, he, hk, hal, hw, _, _⟩
  · rw [began_ask]
    unfold Now.left
    rw [ha]
    rfl
  · rw [began_at he]
    have := cut_length (List.getElem?_eq_some_iff.mp he).1
    unfold Now.left
    split <;> (dsimp only; omega)
def Now.people (s : Now) : Nat := s.queue.length + s.reading.length + optN s.alone
theorem Now.began_people {s : Now} {seats pat i : Int} (o : s.ok) (h : s.next seats pat = some i) : (s.began i).people = s.people := by
  rcases next_cases h fun e he => (o.qn e he).2 with ⟨rfl, a, ha, hr⟩ | ⟨m, e, rfl, he, hk, hal, hw, _, _⟩
  · rw [began_ask]
    unfold Now.people
    have na : s.alone = Option.none := by
      cases z : s.alone with
      | none => rfl
      | some x => have := (o.ad x z).1; rw [hr] at this; cases this
    rw [ha, hr, na]
    rfl
  · rw [began_at he]
    have := cut_length (List.getElem?_eq_some_iff.mp he).1
    unfold Now.people
    split
    · dsimp only
      rw [List.length_append (as := s.reading), List.length_singleton]
      omega
    · dsimp only
      rw [hal]
      show _ + _ + 1 = _ + _ + 0
      omega
theorem Settles.keep {seats pat : Int} {s s' : Now} {l : List (Str × Str)} (h : Settles seats pat s l s') : s.ok → s'.ok ∧ s'.people = s.people ∧ s'.left + l.length = s.left := by
  induction h with
  | stop _ => exact fun o => ⟨o, rfl, rfl⟩
  | step e _ ih =>
    intro o
    obtain ⟨a, b, c⟩ := ih (o.began e)
    refine ⟨a, b.trans (Now.began_people o e), ?_⟩
    have := Now.began_left o e
    rw [List.length_cons]
    omega
theorem settles_ex {seats pat : Int} : ∀ (n : Nat) (s : Now), s.ok → s.left ≤ n → ∃ l s', Settles seats pat s l s'
  | n, s, o, hn => by
    cases e : s.next seats pat with
    | none => exact ⟨[], s, .stop e⟩
    | some i =>
      have l := Now.began_left o e
      cases n with
      | zero => omega
      | succ n =>
        obtain ⟨l', s', h⟩ := settles_ex n (s.began i) (o.began e) (by omega)
        exact ⟨_, _, .step e h⟩
/-- how much room a journal takes -/
structure Lim (n : Nat) (s : Now) (rows : List JRow) : Prop where
  book : rows.length + s.left ≤ 2 * n
  ppl : s.people ≤ n
/-! #### what deeds do -/
theorem done_came {s : Now} {z x : Str} : s.done ⟨wCame, z, x⟩ = { s with queue := s.queue ++ [⟨z, x, 0⟩] } := if_pos rfl
theorem done_asked {s : Now} {z x : Str} : s.done ⟨wAsked, z, x⟩ = { s with asked := some z } := by
  unfold Now.done
  rw [if_neg (show ¬ wAsked = wCame by decide +kernel), if_pos rfl]
theorem done_eased {s : Now} {z x : Str} : s.done ⟨wEased, z, x⟩ = { s with alone := Option.none, reading := [z] } := by
  unfold Now.done
  rw [if_neg (show ¬ wEased = wCame by decide +kernel), if_neg (show ¬ wEased = wAsked by decide +kernel), if_pos rfl]
theorem done_left {s : Now} {z x : Str} : s.done ⟨wLeft, z, x⟩ = ⟨s.queue.filter (fun e => decide (e.who ≠ z)), s.reading.filter (fun y => decide (y ≠ z)), if s.alone = some z then Option.none else s.alone, if s.asked = some z then Option.none else s.asked⟩ := by
  unfold Now.done
  rw [if_neg (show ¬ wLeft = wCame by decide +kernel), if_neg (show ¬ wLeft = wAsked by decide +kernel), if_neg (show ¬ wLeft = wEased by decide +kernel)]
theorem refused_came {s : Now} {z x : Str} : s.refused ⟨wCame, z, x⟩ = s.known z := if_pos rfl
theorem refused_left {s : Now} {z x : Str} : s.refused ⟨wLeft, z, x⟩ = !s.known z := by
  unfold Now.refused
  rw [if_neg (show ¬ wLeft = wCame by decide +kernel), if_pos rfl]
theorem refused_asked {s : Now} {z x : Str} : s.refused ⟨wAsked, z, x⟩ = (!decide (z ∈ s.reading) || decide (s.asked ≠ none)) := by
  unfold Now.refused
  rw [if_neg (show ¬ wAsked = wCame by decide +kernel), if_neg (show ¬ wAsked = wLeft by decide +kernel), if_pos rfl]
theorem refused_eased {s : Now} {z x : Str} : s.refused ⟨wEased, z, x⟩ = (decide (s.alone = none) || decide (s.alone ≠ some z)) := by
  unfold Now.refused
  rw [if_neg (show ¬ wEased = wCame by decide +kernel), if_neg (show ¬ wEased = wLeft by decide +kernel), if_neg (show ¬ wEased = wAsked by decide +kernel)]
theorem who_filter (l : List QE) (z : Str) : (l.filter fun e => decide (e.who ≠ z)).map QE.who = (l.map QE.who).filter fun y => decide (y ≠ z) := by
  rw [List.filter_map]
  rfl
theorem filter_out {l : List Str} {z : Str} (h : z ∉ l) : l.filter (fun y => decide (y ≠ z)) = l := List.filter_eq_self.mpr fun y hy => decide_eq_true fun e => h (e ▸ hy)
theorem filter_outQ {l : List QE} {z : Str} (h : z ∉ l.map QE.who) : l.filter (fun e => decide (e.who ≠ z)) = l := List.filter_eq_self.mpr fun y hy => decide_eq_true fun e => h (e ▸ List.mem_map.mpr ⟨y, hy, rfl⟩)
/-- the one of this name taken out of the line -/
theorem erase_filter : ∀ {l : List QE} {m : Nat} {e : QE}, (l.map QE.who).Nodup → l[m]? = some e → l.eraseIdx m = l.filter fun u => decide (u.who ≠ e.who)
  | [], _, _, _, h => by cases h
  | x :: l, 0, e, nd, h => by
    cases h
    have nd' := List.nodup_cons.mp nd
    rw [List.eraseIdx_cons_zero, List.filter_cons, if_neg (by simp)]
    exact (filter_outQ nd'.1).symm
  | x :: l, m + 1, e, nd, h => by
    have nd' := List.nodup_cons.mp nd
    have h' : l[m]? = some e := h
    rw [List.eraseIdx_cons_succ, List.filter_cons, if_pos (decide_eq_true (show x.who ≠ e.who from fun w => nd'.1 (by rw [w]; exact List.mem_map.mpr ⟨e, List.mem_of_getElem? h', rfl⟩))), erase_filter nd'.2 h']
theorem Now.ok.qnd {s : Now} (o : s.ok) : (s.queue.map QE.who).Nodup := (List.nodup_append.mp o.nd).2.1
theorem Now.ok.apart {s : Now} (o : s.ok) {z : Str} (h : z ∈ s.reading) : z ∉ s.queue.map QE.who := fun w => (List.nodup_append.mp o.nd).2.2 z h z w rfl
/-- a deed that is not refused keeps the room in order -/
theorem Now.ok.done {s : Now} (o : s.ok) {d : Deed} (g : d.good) (h : s.refused d = false) : (s.done d).ok := by
  obtain ⟨w, z, x⟩ := d
  obtain ⟨hw, hz, hx⟩ := g
  rcases hw with rfl | rfl | rfl | rfl
  · rw [refused_came] at h
    rw [done_came]
    unfold Now.known at h
    simp only [Bool.or_eq_false_iff, decide_eq_false_iff_not] at h
    obtain ⟨h1, h2, h3⟩ := h
    refine ⟨fun e he => ?_, o.rn, o.an, ?_, fun y hy => ⟨(o.ad y hy).1, ?_⟩, o.ka⟩
    · rcases List.mem_append.mp he with k | k
      · exact o.qn e k
      · rw [List.mem_singleton.mp k]
        exact ⟨hz, hx⟩
    · show (s.reading ++ (s.queue ++ ([⟨z, x, 0⟩] : List QE)).map QE.who).Nodup
      rw [List.map_append, ← List.append_assoc]
      refine List.nodup_append.mpr ⟨o.nd, by simp, fun a ha b hb => ?_⟩
      rw [show (([⟨z, x, 0⟩] : List QE).map QE.who) = [z] from rfl, List.mem_singleton] at hb
      rw [hb]
      rcases List.mem_append.mp ha with k | k
      · exact fun w => h1 (w ▸ k)
      · exact fun w => h3 (w ▸ k)
    · show y ∉ (s.queue ++ ([⟨z, x, 0⟩] : List QE)).map QE.who
      rw [List.map_append]
      intro k
      rcases List.mem_append.mp k with k | k
      · exact (o.ad y hy).2 k
      · rw [show (([⟨z, x, 0⟩] : List QE).map QE.who) = [z] from rfl, List.mem_singleton] at k
        exact h2 (k ▸ hy)
  · rw [done_left]
    refine ⟨fun e he => o.qn e ((List.mem_filter.mp he).1), fun y hy => o.rn y ((List.mem_filter.mp hy).1), fun y hy => ?_, ?_, fun y hy => ?_, fun y hy => ?_⟩
    · refine o.an y ?_
      by_cases k : s.alone = some z
      · have hy' : (if s.alone = some z then Option.none else s.alone) = some y := hy
        rw [if_pos k] at hy'
        cases hy'
      · have hy' : (if s.alone = some z then Option.none else s.alone) = some y := hy
        rw [if_neg k] at hy'
        exact hy'
    · show (s.reading.filter _ ++ (s.queue.filter _).map QE.who).Nodup
      rw [who_filter, ← List.filter_append]
      exact o.nd.filter _
    · have hy' : s.alone = some y := by
        by_cases k : s.alone = some z
        · have hy' : (if s.alone = some z then Option.none else s.alone) = some y := hy
          rw [if_pos k] at hy'
          cases hy'
        · have hy' : (if s.alone = some z then Option.none else s.alone) = some y := hy
          rw [if_neg k] at hy'
          exact hy'
      obtain ⟨a, b⟩ := o.ad y hy'
      refine ⟨?_, fun k => b ?_⟩
      · show s.reading.filter _ = []
        rw [a]
        rfl
      · have k' : y ∈ (s.queue.filter fun e => decide (e.who ≠ z)).map QE.who := k
        rw [who_filter] at k'
        exact (List.mem_filter.mp k').1
    · show y ∈ s.reading.filter _
      by_cases k : s.asked = some z
      · have hy' : (if s.asked = some z then Option.none else s.asked) = some y := hy
        rw [if_pos k] at hy'
        cases hy'
      · have hy' : (if s.asked = some z then Option.none else s.asked) = some y := hy
        rw [if_neg k] at hy'
        refine List.mem_filter.mpr ⟨o.ka y hy', decide_eq_true fun w => k ?_⟩
        rw [hy', w]
  · rw [refused_asked] at h
    rw [done_asked]
    simp only [Bool.or_eq_false_iff, Bool.not_eq_false', decide_eq_true_eq] at h
    refine ⟨o.qn, o.rn, o.an, o.nd, o.ad, fun y hy => ?_⟩
    cases hy
    exact h.1
  · rw [refused_eased] at h
    rw [done_eased]
    simp only [Bool.or_eq_false_iff, decide_eq_false_iff_not, Classical.not_not] at h
    obtain ⟨a, b⟩ := o.ad z h.2
    refine ⟨o.qn, fun y hy => ?_, (fun y hy => by cases hy), ?_, (fun y hy => by cases hy), fun y hy => ?_⟩
    · rw [List.mem_singleton.mp hy]
      exact hz
    · show ([z] ++ s.queue.map QE.who).Nodup
      exact List.nodup_cons.mpr ⟨b, o.qnd⟩
    · have := o.ka y hy
      rw [a] at this
      cases this
theorem optN_le {α : Type} (o : Option α) : optN o ≤ 1 := by cases o <;> first | exact Nat.zero_le _ | exact Nat.le_refl _
theorem Now.done_sizes {s : Now} (o : s.ok) {d : Deed} (g : d.good) (h : s.refused d = false) : (s.done d).people ≤ s.people + 1 ∧ (s.done d).left ≤ s.left + 1 := by
  obtain ⟨w, z, x⟩ := d
  obtain ⟨hw, hz, hx⟩ := g
  unfold Now.people Now.left
  rcases hw with rfl | rfl | rfl | rfl
  · rw [done_came]
    dsimp only
    rw [List.length_append, List.length_singleton]
    omega
  · rw [done_left]
    dsimp only
    have h1 := List.length_filter_le (fun e : QE => decide (e.who ≠ z)) s.queue
    have h2 := List.length_filter_le (fun y => decide (y ≠ z)) s.reading
    have h3 : optN (if s.alone = some z then Option.none else s.alone) ≤ optN s.alone := by
      split
      · exact Nat.zero_le _
      · exact Nat.le_refl _
    have h4 : optN (if s.asked = some z then Option.none else s.asked) ≤ optN s.asked := by
      split
      · exact Nat.zero_le _
      · exact Nat.le_refl _
    omega
  · rw [done_asked]
    dsimp only
    have := optN_le (some z)
    omega
  · rw [done_eased]
    dsimp only
    rw [refused_eased] at h
    simp only [Bool.or_eq_false_iff, decide_eq_false_iff_not, Classical.not_not] at h
    rw [h.2]
    show _ + 1 + 0 ≤ _ + 1 + 1 ∧ _
    omega
/-- behind a deed and all who begin -/
theorem Lim.next {n : Nat} {s s' : Now} {rows : List JRow} {d : Deed} {pr : List (Str × Str)} {seats pat : Int} {row : JRow} {f : Str × Str → JRow} (l : Lim n s rows) (o : s.ok) (g : d.good) (h : s.refused d = false) (k : Settles seats pat (s.done d) pr s') : s'.ok ∧ Lim (n + 1) s' (rows ++ row :: pr.map f) := by
  obtain ⟨a, b⟩ := Now.done_sizes o g h
  obtain ⟨c1, c2, c3⟩ := k.keep (o.done g h)
  refine ⟨c1, ?_, ?_⟩
  · rw [List.length_append, List.length_cons, List.length_map]
    have := l.book
    omega
  · have := l.ppl
    omega

/-! ### readings of objects, dicts, lists that change -/
section
variable {K : PySem.W.Frag} {σ : L2.St} {H H' : Hp} {t1 t2 t3 : TE} {a1 : TA} {c1 c2 : TT} {x y z v : V} {D : Ends} {u1 u2 u3 : TS} {p C dx : Addr} {fs : List (Str × V)} {f m : Str} {vs : List V} {sp : Sp} {ds : List V} {E : XK}
theorem v_at (h : Vl t1 σ H (.ref p)) (e : H p = some (.ins C dx fs)) (c : Cls K C) (n : NoAttr K C f) (l : fs.lookup f = some v) : Vl (tFld K t1 f) σ H v := fun H1 Q g q => h H1 _ g fun H2 g2 => ⟨p, C, dx, fs, v, rfl, (g.trans g2).ins e, c, n, l, q H2 g2⟩
theorem S_fld (hv : Vl t2 σ H v) (h : Vl t1 σ H (.ref p)) (e : H p = some (.ins C dx fs)) (c : Cls K C) (n : NoAttr K C f) (len : fs.length < 1000) (k : ∀ H1, Gr H H1 → D.nx σ (upd H1 p (.ins C dx (putF f v fs)))) : sFld K t1 t2 f D σ H :=
  hv H _ (.refl _) fun H1 g1 => h H1 _ g1 fun H2 g2 => ⟨p, C, dx, fs, rfl, (g1.trans g2).ins e, c, n, len, k H2 (g1.trans g2)⟩
theorem B_fld (hv : Vl t2 σ H v) (h : Vl t1 σ H (.ref p)) (e : H p = some (.ins C dx fs)) (c : Cls K C) (n : NoAttr K C f) (len : fs.length < 1000) (k : ∀ H1, Gr H H1 → u1 D σ (upd H1 p (.ins C dx (putF f v fs)))) : tSeq (sFld K t1 t2 f) u1 D σ H := S_fld (D := { D with nx := u1 D }) hv h e c n len k
theorem S_fldR {R : V → Hp → Prop} (hv : Vr t2 σ H R) (h : Vl t1 σ H (.ref p)) (e : H p = some (.ins C dx fs)) (c : Cls K C) (n : NoAttr K C f) (len : fs.length < 1000) (mono : ∀ {v H1 H2}, Gr H1 H2 → R v H1 → R v H2) (k : ∀ v H1, Gr H H1 → R v H1 → D.nx σ (upd H1 p (.ins C dx (putF f v fs)))) : sFld K t1 t2 f D σ H :=
  hv H _ (.refl _) fun v H1 g1 hr => h H1 _ g1 fun H2 g2 => ⟨p, C, dx, fs, rfl, (g1.trans g2).ins e, c, n, len, k v H2 (g1.trans g2) (mono g2 hr)⟩
theorem B_fldR {R : V → Hp → Prop} (hv : Vr t2 σ H R) (h : Vl t1 σ H (.ref p)) (e : H p = some (.ins C dx fs)) (c : Cls K C) (n : NoAttr K C f) (len : fs.length < 1000) (mono : ∀ {v H1 H2}, Gr H1 H2 → R v H1 → R v H2) (k : ∀ v H1, Gr H H1 → R v H1 → u1 D σ (upd H1 p (.ins C dx (putF f v fs)))) : tSeq (sFld K t1 t2 f) u1 D σ H := S_fldR (D := { D with nx := u1 D }) hv h e c n len mono k
theorem v_din {w : Str} {l : List Str} (h : Vl t1 σ H (.str w)) (h2 : Vl t2 σ H (.ref p)) (e : H p = some (.dK (rdD l))) : Vl (tDIn t1 t2) σ H (.bl (decide (w ∈ l))) := fun H1 Q g q => h H1 _ g fun H2 g2 => h2 H2 _ (g.trans g2) fun H3 g3 => ⟨p, _, rfl, DGet.k (k := .inr w) (((g.trans g2).trans g3).dK e), by
  rw [rdD_get]
  exact q H3 (g2.trans g3)⟩
theorem v_lenD {kvs : List (Key × V)} (h : Vl t1 σ H (.ref p)) (e : H p = some (.dK kvs)) : Vl (tCB (fun xs H Q => ∃ a kvs, xs = [V.ref a] ∧ H a = some (.dK kvs) ∧ Q (.int kvs.length) H) (tCons t1 tNil)) σ H (.int kvs.length) := v_blt (g_cons h g_nil) fun H1 _ g q => ⟨p, kvs, rfl, g.dK e, q H1 (.refl _)⟩
theorem l_listD {l : List Str} (h : Vl t1 σ H (.ref p)) (e : H p = some (.dK (rdD l))) : Ls (tCB (fun xs H Q => ∃ (a : Addr) (kvs : List (Key × V)), xs = [.ref a] ∧ Rd H a (.dK kvs) ∧ ∀ p, H p = none → Q (.ref p) (upd H p (.lst (kvs.map fun kv => kV kv.1)))) (tCons t1 tNil)) σ H (l.map V.str) :=
  l_blt (g_cons h g_nil) fun _ _ g q => ⟨p, _, rfl, .inl (g.dK e), fun q1 hq => q q1 _ hq (.new hq) (by rw [upd_same, rdD_keys])⟩
theorem S_ddel {w : Str} {l : List Str} (h : Vl t1 σ H (.ref p)) (h2 : Vl t2 σ H (.str w)) (e : H p = some (.dK (rdD l))) (hw : w ∈ l) (k : ∀ H1, Gr H H1 → D.nx σ (upd H1 p (.dK (rdD (l.filter fun x => decide (x ≠ w)))))) : sDDel t1 t2 D σ H := h H _ (.refl _) fun H1 g => h2 H1 _ g fun H2 g2 => ⟨p, _, .inr w, rfl, (g.trans g2).dK e, rfl, by rw [rdD_get]; exact decide_eq_true hw, by
  rw [rdD_drop]
  exact k H2 (g.trans g2)⟩
theorem B_ddel {w : Str} {l : List Str} (h : Vl t1 σ H (.ref p)) (h2 : Vl t2 σ H (.str w)) (e : H p = some (.dK (rdD l))) (hw : w ∈ l) (k : ∀ H1, Gr H H1 → u1 D σ (upd H1 p (.dK (rdD (l.filter fun x => decide (x ≠ w)))))) : tSeq (sDDel t1 t2) u1 D σ H := S_ddel (D := { D with nx := u1 D }) h h2 e hw k
theorem S_dadd {w : Str} {l : List Str} (hv : Vl t3 σ H (.bl true)) (h : Vl t1 σ H (.ref p)) (h2 : Vl t2 σ H (.str w)) (e : H p = some (.dK (rdD l))) (hw : w ∉ l) (n : l.length ≤ 10000) (k : ∀ H1, Gr H H1 → D.nx σ (upd H1 p (.dK (rdD (l ++ [w]))))) : sDPut t1 t2 t3 D σ H := hv H _ (.refl _) fun H1 g => h H1 _ g fun H2 g2 => h2 H2 _ (g.trans g2) fun H3 g3 => ⟨p, _, rfl, DPut.k (k := .inr w) (((g.trans g2).trans g3).dK e) (small' (by unfold rdD; rw [List.length_map]; omega)), by
  rw [rdD_put _ _ hw]
  exact k H3 ((g.trans g2).trans g3)⟩
theorem B_dadd {w : Str} {l : List Str} (hv : Vl t3 σ H (.bl true)) (h : Vl t1 σ H (.ref p)) (h2 : Vl t2 σ H (.str w)) (e : H p = some (.dK (rdD l))) (hw : w ∉ l) (n : l.length ≤ 10000) (k : ∀ H1, Gr H H1 → u1 D σ (upd H1 p (.dK (rdD (l ++ [w]))))) : tSeq (sDPut t1 t2 t3) u1 D σ H := S_dadd (D := { D with nx := u1 D }) hv h h2 e hw n k
theorem seq_at {i n : Nat} (h : i < n) : seqIndex? (i : Int) n = some i := by
  have h0 : ¬ (i : Int) < 0 := by omega
  unfold seqIndex?
  simp [h, h0]
theorem S_delL {xs : List V} {i : Nat} (h : Vl t1 σ H (.ref p)) (h2 : Vl t2 σ H (.int (i : Int))) (e : H p = some (.lst xs)) (hi : i < xs.length) (hs : i ≤ 100000) (k : ∀ H1, Gr H H1 → D.nx σ (upd H1 p (.lst (xs.eraseIdx i)))) : tDelL t1 t2 D σ H := h H _ (.refl _) fun H1 g => h2 H1 _ g fun H2 g2 => ⟨p, xs, i, i, rfl, rfl, (g.trans g2).lst e, by omega, by omega, seq_at hi, k H2 (g.trans g2)⟩
theorem tu_ret {xs : List V} (h : Tu t1 σ H xs) (k : ∀ t H1, H t = none → Gr H H1 → H1 t = some (.tup xs) → D.rt (.ref t) H1) : tRet t1 D σ H := h H _ (.refl _) k
/-- e.m(..), a promise of which nothing changes -/
theorem v_meth (h : Vl t1 σ H (.ref p)) (e : H p = some (.ins C dx fs)) (l : fs.lookup m = none) (a : Ag a1 σ H vs) (k : SpV sp (.ref p :: (vs ++ ds)) H z) : Vl (tMeth C m sp ds E t1 a1) σ H z := fun H1 _ g q => h H1 _ g fun H2 g2 => ⟨p, dx, fs, rfl, (g.trans g2).ins e, l, a H2 _ (g.trans g2) fun H3 g3 => k H3 _ _ ((g.trans g2).trans g3) fun H4 g4 => q H4 ((g2.trans g3).trans g4)⟩
theorem l_meth {xs : List V} (h : Vl t1 σ H (.ref p)) (e : H p = some (.ins C dx fs)) (l : fs.lookup m = none) (a : Ag a1 σ H vs) (k : SpL sp (.ref p :: (vs ++ ds)) H xs) : Ls (tMeth C m sp ds E t1 a1) σ H xs := fun H1 _ g q => h H1 _ g fun H2 g2 => ⟨p, dx, fs, rfl, (g.trans g2).ins e, l, a H2 _ (g.trans g2) fun H3 g3 => k H3 _ _ ((g.trans g2).trans g3) fun b H4 hb g4 h4 => q b H4 ((g2.trans g3).free hb) ((g2.trans g3).trans g4) h4⟩
theorem r_meth {R : V → Hp → Prop} (h : Vl t1 σ H (.ref p)) (e : H p = some (.ins C dx fs)) (l : fs.lookup m = none) (a : Ag a1 σ H vs) (k : SpR sp (.ref p :: (vs ++ ds)) H R) : Vr (tMeth C m sp ds E t1 a1) σ H R := fun H1 _ g q => h H1 _ g fun H2 g2 => ⟨p, dx, fs, rfl, (g.trans g2).ins e, l, a H2 _ (g.trans g2) fun H3 g3 => k H3 _ _ ((g.trans g2).trans g3) fun v H4 g4 h4 => q v H4 ((g2.trans g3).trans g4) h4⟩
/-- e.m(..), by the promise itself -/
theorem meth {Q : VK} (h : Vl t1 σ H (.ref p)) (e : H p = some (.ins C dx fs)) (l : fs.lookup m = none) (a : Ag a1 σ H vs) (k : ∀ H1, Gr H H1 → sp (.ref p :: (vs ++ ds)) H1 Q E) : tMeth C m sp ds E t1 a1 σ H Q := h H _ (.refl _) fun H2 g2 => ⟨p, dx, fs, rfl, g2.ins e, l, a H2 _ g2 fun H3 g3 => k H3 (g2.trans g3)⟩
theorem B_meth (h : Vl t1 σ H (.ref p)) (e : H p = some (.ins C dx fs)) (l : fs.lookup m = none) (a : Ag a1 σ H vs) (k : ∀ H1, Gr H H1 → sp (.ref p :: (vs ++ ds)) H1 (fun _ H2 => u1 D σ H2) E) : tSeq (tDrop (tMeth C m sp ds E t1 a1)) u1 D σ H := meth h e l a k
theorem S_retM (h : Vl t1 σ H (.ref p)) (e : H p = some (.ins C dx fs)) (l : fs.lookup m = none) (a : Ag a1 σ H vs) (k : ∀ H1, Gr H H1 → sp (.ref p :: (vs ++ ds)) H1 D.rt E) : tRet (tMeth C m sp ds E t1 a1) D σ H := meth h e l a k
theorem B_setM {i : Nat} (h : Vl t1 σ H (.ref p)) (e : H p = some (.ins C dx fs)) (l : fs.lookup m = none) (a : Ag a1 σ H vs) (k : ∀ H1, Gr H H1 → sp (.ref p :: (vs ++ ds)) H1 (fun v H2 => u1 D (σ.set i (some v)) H2) E) : tSeq (tAsg (tMeth C m sp ds E t1 a1) (gName i)) u1 D σ H := meth h e l a k
theorem S_setM {i : Nat} (h : Vl t1 σ H (.ref p)) (e : H p = some (.ins C dx fs)) (l : fs.lookup m = none) (a : Ag a1 σ H vs) (k : ∀ H1, Gr H H1 → sp (.ref p :: (vs ++ ds)) H1 (fun v H2 => D.nx (σ.set i (some v)) H2) E) : tAsg (tMeth C m sp ds E t1 a1) (gName i) D σ H := meth h e l a k
theorem S_retMU {ts : List V} (h : Vl t1 σ H (.ref p)) (e : H p = some (.ins C dx fs)) (l : fs.lookup m = none) (a : Tu t2 σ H ts) (k : ∀ pt H1, H pt = none → Gr H H1 → H1 pt = some (.tup ts) → sp (.ref p :: ([.ref pt] ++ ds)) H1 D.rt E) : tRet (tMeth C m sp ds E t1 (tCons t2 tNil)) D σ H := h H _ (.refl _) fun H2 g2 => ⟨p, dx, fs, rfl, g2.ins e, l, a H2 _ g2 fun pt H3 hp g3 et => k pt H3 (g2.free hp) (g2.trans g3) et⟩
theorem B_unp3 {q : Addr} {n i j k : Nat} (hn : 3 = n) (h : Vl t1 σ H (.ref q)) (e : H q = some (.tup [x, y, z])) (kk : ∀ H1, Gr H H1 → u1 D (((σ.set i (some x)).set j (some y)).set k (some z)) H1) : tSeq (tAsg t1 (gTup K n (gCons (gName i) (gCons (gName j) (gCons (gName k) gNil))))) u1 D σ H :=
  h H _ (.refl _) fun H1 g => ⟨q, _, rfl, SqT.of (g.tup e), hn, x, _, rfl, y, _, rfl, z, _, rfl, rfl, kk H1 g⟩
theorem B_unp2 {q : Addr} {n i j : Nat} (hn : 2 = n) (h : Vl t1 σ H (.ref q)) (e : H q = some (.tup [x, y])) (kk : ∀ H1, Gr H H1 → u1 D ((σ.set i (some x)).set j (some y)) H1) : tSeq (tAsg t1 (gTup K n (gCons (gName i) (gCons (gName j) gNil)))) u1 D σ H :=
  h H _ (.refl _) fun H1 g => ⟨q, _, rfl, SqT.of (g.tup e), hn, x, _, rfl, y, _, rfl, rfl, kk H1 g⟩
theorem ix_nat {n i : Nat} (h : i < n) : ixN n (i : Int) = some i := by
  unfold ixN
  rw [if_pos (by omega), if_pos (by omega), Int.toNat_natCast]
theorem S_setIxU {l : Addr} {xs ts : List V} {i : Nat} (hv : Tu t1 σ H ts) (h : Vl t2 σ H (.ref l)) (h3 : Vl t3 σ H (.int (i : Int))) (e : H l = some (.lst xs)) (hi : i < xs.length) (kk : ∀ pt H1, H pt = none → Gr H H1 → H1 pt = some (.tup ts) → D.nx σ (upd H1 l (.lst (xs.set i (.ref pt))))) : tAsg t1 (gSub t2 t3 rSetL) D σ H :=
  hv H _ (.refl _) fun pt H1 hp g et => h H1 _ g fun H2 g2 => h3 H2 _ (g.trans g2) fun H3 g3 => ⟨l, xs, i, i, rfl, rfl, ((g.trans g2).trans g3).lst e, ix_nat hi, kk pt H3 hp ((g.trans g2).trans g3) ((g2.trans g3).tup et)⟩
theorem B_unpPop {l q : Addr} {xs : List V} {n i j k m : Nat} (hn : 3 = n) (h : Vl t1 σ H (.ref l)) (h2 : Vl t2 σ H (.int (m : Int))) (e : H l = some (.lst xs)) (hm : xs[m]? = some (.ref q)) (hs : m ≤ 100000) (et : H q = some (.tup [x, y, z])) (kk : ∀ H1, Gr H H1 → u1 D (((σ.set i (some x)).set j (some y)).set k (some z)) (upd H1 l (.lst (xs.eraseIdx m)))) :
    tSeq (tAsg (tBM K "list" rPopAt t1 (tCons t2 tNil)) (gTup K n (gCons (gName i) (gCons (gName j) (gCons (gName k) gNil))))) u1 D σ H :=
  h H _ (.refl _) fun H1 g => ⟨.inl ⟨rfl, xs, SqL.of (g.lst e)⟩, h2 H1 _ g fun H2 g2 => ⟨l, xs, m, m, .ref q, rfl, rfl, (g.trans g2).lst e, by omega, by omega, seq_at (List.getElem?_eq_some_iff.mp hm).1, hm, q, _, rfl, SqT.of ((upd_ne fun w => by have e1 := (g.trans g2).lst e; rw [← w, (g.trans g2).tup et] at e1; cases e1).trans ((g.trans g2).tup et)), hn, x, _, rfl, y, _, rfl, z, _, rfl, rfl, kk H2 (g.trans g2)⟩⟩
end
theorem TupsAt.set {α : Type} {f : α → List V} {H : Hp} {p : Addr} {r : α} (h : H p = some (.tup (f r))) : ∀ (n : Nat) {vs : List V} {l : List α}, TupsAt H f vs l → TupsAt H f (vs.set n (.ref p)) (l.set n r)
  | _, _, _, .nil => .nil
  | 0, _, _, .cons _ t => .cons h t
  | n + 1, _, _, .cons k t => .cons k (TupsAt.set h n t)
theorem TupsAt.erase {α : Type} {f : α → List V} {H : Hp} : ∀ (n : Nat) {vs : List V} {l : List α}, TupsAt H f vs l → TupsAt H f (vs.eraseIdx n) (l.eraseIdx n)
  | _, _, _, .nil => .nil
  | 0, _, _, .cons _ t => t
  | n + 1, _, _, .cons k t => .cons k (TupsAt.erase n t)
section
variable {K : PySem.W.Frag} {σ : L2.St} {H : Hp} {t1 t2 : TE}
/-- a comprehension over tuples, taken apart by its target -/
theorem r_cmpG {α β : Type} {f : α → List V} {g : β → List V} {F : α → β} {τ : α → L2.St} {gt : TG} {a : Addr} {xs : List V} {l : List α} {ws : List Nat} (h : Vl t2 σ H (.ref a)) (hx : H a = some (.lst xs)) (tx : TupsAt H f xs l) (hz : xs.length ≤ 40000)
    (hg : ∀ (p : Addr) (u : α) H1 (Q : L2.St → Hp → Prop), H1 p = some (.tup (f u)) → Q (τ u) H1 → gt (.ref p) (wipe σ ws) H1 Q) (hw : ∀ u, wipe (τ u) ws = wipe σ ws) (he : ∀ u H1, Gr H H1 → Tu t1 (τ u) H1 (g (F u))) :
    Vr (tLc (iList K t2) gt tYes t1 ws) σ H (fun v H1 => ∃ la ya, v = .ref la ∧ H la = none ∧ H1 la = some (.lst ya) ∧ TupsAt H1 g ya (l.map F)) := fun H0 Q gr q => h H0 _ gr fun H1 g1 => ⟨a, rfl, ⟨xs, SqL.of ((gr.trans g1).lst hx)⟩, fun p hp =>
  lc_list (xs := xs) (fun m H' => H1 p = none ∧ Gr H1 H' ∧ ∃ ya, H' p = some (.lst ya) ∧ TupsAt H' g ya ((l.take m).map F)) ⟨hp, .new hp, [], upd_same, .nil⟩ (fun _ H' _ w => SqL.of (((gr.trans g1).trans w.2.1).lst hx)) (fun m x H' hm ⟨w1, w2, ya, w3, w4⟩ => by
    have hm' : m < l.length := by
      have := (List.getElem?_eq_some_iff.mp hm).1
      have := tx.length
      omega
    obtain ⟨pt, hpt, ht⟩ := tx.get m (List.getElem?_eq_getElem hm')
    rw [hm] at hpt
    obtain rfl := Option.some.inj hpt
    have gg := (gr.trans g1).trans w2
    have ly := w4.length
    rw [List.length_map, List.length_take] at ly
    have lxx := tx.length
    refine hg pt l[m] H' _ (gg.tup ht) ⟨hw _, s_yes H' _ (.refl _) fun H3 g3 => iteT (he l[m] H3 (gg.trans g3) H3 _ (.refl _) fun t H4 _ g4 e4 => ⟨ya, g4.lst (g3.lst w3), small' (by omega), w1, ((w2.trans g3).trans g4).chg w1, ya ++ [.ref t], upd_same, ?_⟩)⟩
    have hp4 := g4.lst (g3.lst w3)
    rw [List.take_succ, List.getElem?_eq_getElem hm', Option.toList_some, List.map_append]
    exact ((w4.mono (g3.trans g4)).chg fun ts z => by rw [hp4] at z; cases z).snoc ((upd_ne fun z => by rw [z, hp4] at e4; cases e4).trans e4)) fun H' ⟨w1, w2, ya, w3, w4⟩ => q _ H' (g1.trans w2) ⟨p, ya, rfl, (gr.trans g1).free w1, w3, by
      rw [List.take_of_length_le (by rw [tx.length]; exact Nat.le_refl _)] at w4
      exact w4⟩⟩
end
theorem put_new {f : Str} {v : V} : ∀ {fs : List (Str × V)}, (∀ g ∈ fs.map (·.1), g ≠ f) → putF f v fs = fs ++ [(f, v)]
  | [], _ => rfl
  | (g, x) :: r, h => by
    have h1 : g ≠ f := h g List.mem_cons_self
    unfold putF
    rw [if_neg h1, put_new fun y hy => h y (List.mem_cons_of_mem _ hy)]
    rfl
theorem r_dnew {σ : L2.St} {H : Hp} : Vr tDNewK σ H (fun v H2 => ∃ d, v = .ref d ∧ H d = none ∧ H2 d = some (.dK [])) := fun H1 Q g q => fun d hd => q _ _ (.new hd) ⟨d, rfl, g.free hd, upd_same⟩

/-! ### what the room's defs promise -/
structure Rm where
  p : Addr
  a : RAd
  seats : Int
  pat : Int
  s : Now
  rows : List JRow
def Rm.At (K : PySem.W.Frag) (P : Addr) (H : Hp) (r : Rm) : Prop := RoomAt K P H r.p r.a r.seats r.pat r.s r.rows
def Rm.L (r : Rm) : Addr → Prop := Fp r.p r.a
def Rm.fine (r : Rm) (n : Nat) : Prop := r.s.ok ∧ Lim n r.s r.rows ∧ n ≤ 5000
theorem Rm.At.mono {K : PySem.W.Frag} {P : Addr} {H H' : Hp} {r : Rm} (g : Gr H H') (h : r.At K P H) : r.At K P H' := RoomAt.mono g h
def natV : Option Nat → V
  | none => .non
  | some i => .int i
def canB (seats reading : Int) (writes : Bool) (wish : Str) : Bool := if writes = true then false else if wish = rd then decide (reading < seats) else decide (reading = 0)
def nextQ (l : List QE) (seats p reading : Int) (writes : Bool) : Option Nat :=
  match l with
  | [] => none
  | e :: _ => if canB seats reading writes e.wish = true then some 0 else if e.wish = wr ∧ 0 < reading ∧ canB seats reading writes rd = true then scan p l 0 else none
theorem nextQ_cons {e : QE} {l : List QE} {s p r : Int} {b : Bool} : nextQ (e :: l) s p r b = if canB s r b e.wish = true then some 0 else if e.wish = wr ∧ 0 < r ∧ canB s r b rd = true then scan p (e :: l) 0 else none := rfl
def spCan : Sp := fun vs H Q _ => ∃ (s r : Int) (b : Bool) (w : Str), vs = [.int s, .int r, .bl b, .str w] ∧ RV (.bl (canB s r b w)) H Q
def spFirst (K : PySem.W.Frag) : Sp := fun vs H Q _ => ∃ (a : Addr) (xs : List V) (l : List QE) (p : Int), vs = [.ref a, .int p] ∧ H a = some (.lst xs) ∧ TupsAt H QE.vs xs l ∧ RV (natV (scan p l 0)) H Q
def spNextP (K : PySem.W.Frag) : Sp := fun vs H Q _ => ∃ (a : Addr) (xs : List V) (l : List QE) (s p r : Int) (b : Bool), vs = [.ref a, .int s, .int p, .int r, .bl b] ∧ H a = some (.lst xs) ∧ TupsAt H QE.vs xs l ∧ RV (natV (nextQ l s p r b)) H Q
/-- the program's rule is the rule -/
theorem nextQ_is {s : Now} {seats pat : Int} (o : s.ok) (h : s.asked = none) : (nextQ s.queue seats pat s.reading.length (decide (s.alone ≠ none))).map (fun k => ((k : Nat) : Int)) = s.next seats pat := by
  unfold Now.next
  rw [h]
  dsimp only
  cases hq : s.queue with
  | nil => rfl
  | cons e l =>
    rw [nextQ_cons]
    dsimp only
    have lr : ((s.reading.length : Int) = 0) ↔ s.reading = [] := by
      rw [← List.length_eq_zero_iff]
      omega
    by_cases ha : s.alone = none
    · have nb : decide (s.alone ≠ none) = false := decide_eq_false fun z => z ha
      rw [nb]
      rcases (o.qn e (hq ▸ List.mem_cons_self)).2 with w | w
      · have w2 : ¬ e.wish = wr := fun z => rdNe (w.symm.trans z)
        have sc : scan pat (e :: l) 0 = some 0 := by
          unfold scan
          rw [if_pos w]
        by_cases hs : (s.reading.length : Int) < seats
        · simp [canB, ha, w, rdNe, hs, sc]
        · simp [canB, ha, w, rdNe, hs]
      · have w2 : ¬ e.wish = rd := fun z => rdNe (z.symm.trans w)
        by_cases hr : s.reading = []
        · simp [canB, ha, w, wrNe, hr]
        · have nz : ¬ (s.reading.length : Int) = 0 := fun z => hr (lr.mp z)
          by_cases hs : (s.reading.length : Int) < seats
          · have h0 : 0 < s.reading.length := by omega
            have h1 : ¬ seats ≤ (s.reading.length : Int) := by omega
            simp [canB, ha, w, wrNe, hr, hs, h0, h1]
            cases scan pat (e :: l) 0 <;> rfl
          · have h1 : seats ≤ (s.reading.length : Int) := by omega
            simp [canB, ha, w, wrNe, hr, hs, h1]
    · have nb : decide (s.alone ≠ none) = true := decide_eq_true ha
      rw [nb]
      simp [canB, ha]
def Now.isIn (s : Now) (z : Str) : Bool := decide (z ∈ s.reading) || decide (s.alone = some z)
def findAt (z : Str) : List QE → Nat → Option Nat
  | [], _ => none
  | e :: l, k => if e.who = z then some k else findAt z l (k + 1)
theorem findAt_some {z : Str} : ∀ {l : List QE} {k m : Nat}, findAt z l k = some m → ∃ j e, m = k + j ∧ l[j]? = some e ∧ e.who = z
  | [], _, _, h => by cases h
  | e :: l, k, m, h => by
    unfold findAt at h
    by_cases h1 : e.who = z
    · rw [if_pos h1] at h
      cases h
      exact ⟨0, e, rfl, rfl, h1⟩
    · rw [if_neg h1] at h
      obtain ⟨j, u, rfl, hj, hw⟩ := findAt_some h
      exact ⟨j + 1, u, by omega, hj, hw⟩
theorem findAt_mem {z : Str} : ∀ {l : List QE} {k : Nat}, (findAt z l k).isSome = decide (z ∈ l.map QE.who)
  | [], _ => rfl
  | e :: l, k => by
    unfold findAt
    by_cases h1 : e.who = z
    · rw [if_pos h1]
      exact (decide_eq_true (by rw [List.map_cons, h1]; exact List.mem_cons_self)).symm
    · rw [if_neg h1, findAt_mem]
      refine decide_eq_decide.mpr ⟨fun h => ?_, fun h => ?_⟩
      · rw [List.map_cons]
        exact List.mem_cons_of_mem _ h
      · rw [List.map_cons] at h
        exact (List.mem_cons.mp h).resolve_left fun w => h1 w.symm
def spPlaceM (K : PySem.W.Frag) (P : Addr) : Sp := fun vs H Q _ => ∃ (r : Rm) (z : Str), vs = [.ref r.p, .str z] ∧ r.At K P H ∧ RV (natV (findAt z r.s.queue 0)) H Q
theorem sv_place {K : PySem.W.Frag} {P : Addr} {H : Hp} {r : Rm} {z : Str} (h : r.At K P H) : SpV (spPlaceM K P) [.ref r.p, .str z] H (natV (findAt z r.s.queue 0)) := fun H1 Q E g q => ⟨r, z, rfl, h.mono g, q⟩
def spIsIn (K : PySem.W.Frag) (P : Addr) : Sp := fun vs H Q _ => ∃ (r : Rm) (z : Str), vs = [.ref r.p, .str z] ∧ r.At K P H ∧ RV (.bl (r.s.isIn z)) H Q
theorem sv_isin {K : PySem.W.Frag} {P : Addr} {H : Hp} {r : Rm} {z : Str} (h : r.At K P H) : SpV (spIsIn K P) [.ref r.p, .str z] H (.bl (r.s.isIn z)) := fun H1 Q E g q => ⟨r, z, rfl, h.mono g, q⟩
def knownV (s : Now) : V → Bool
  | .str z => s.known z
  | _ => false
theorem Now.known_is (s : Now) (z : Str) : s.known z = (s.isIn z || decide (z ∈ s.queue.map QE.who)) := by
  unfold Now.known Now.isIn
  rw [Bool.or_assoc]
theorem Now.ok.named {s : Now} (o : s.ok) {z : Str} (h : s.known z = true) : nameB z = true := by
  unfold Now.known at h
  simp only [Bool.or_eq_true, decide_eq_true_eq] at h
  rcases h with h | h | h
  · exact o.rn z h
  · exact o.an z h
  · obtain ⟨e, he, rfl⟩ := List.mem_map.mp h
    exact (o.qn e he).1
def spIsKnown (K : PySem.W.Frag) (P : Addr) : Sp := fun vs H Q _ => ∃ (r : Rm) (v : V), vs = [.ref r.p, v] ∧ r.At K P H ∧ r.s.ok ∧ Thing K v H ∧ RV (.bl (knownV r.s v)) H Q
theorem sv_isknown {K : PySem.W.Frag} {P : Addr} {H : Hp} {r : Rm} {v : V} (h : r.At K P H) (o : r.s.ok) (t : Thing K v H) : SpV (spIsKnown K P) [.ref r.p, v] H (.bl (knownV r.s v)) := fun H1 Q E g q => ⟨r, v, rfl, h.mono g, o, t.mono g, q⟩
/-- refused by an error of this class, or done -/
def Grd (K : PySem.W.Frag) (H : Hp) (E : XK) (x : Option Str) (k : Prop) : Prop := match x with
  | none => k
  | some e => ∀ H1, Gr H H1 → E (.ref (He.ga K e)) none H1
def refKnown (s : Now) (v : V) : Option Str := if knownV s v = true then none else some "Stranger"
def insideV (s : Now) : V → Bool
  | .str z => s.isIn z
  | _ => false
def refIn (s : Now) (v : V) : Option Str := if knownV s v = true then (if insideV s v = true then none else some "Outside") else some "Stranger"
def spNeedKnown (K : PySem.W.Frag) (P : Addr) : Sp := fun vs H Q E => ∃ (r : Rm) (v : V), vs = [.ref r.p, v] ∧ r.At K P H ∧ r.s.ok ∧ Thing K v H ∧ Grd K H E (refKnown r.s v) (RV .non H Q)
def spNeedIn (K : PySem.W.Frag) (P : Addr) : Sp := fun vs H Q E => ∃ (r : Rm) (v : V), vs = [.ref r.p, v] ∧ r.At K P H ∧ r.s.ok ∧ Thing K v H ∧ Grd K H E (refIn r.s v) (RV .non H Q)
/-! #### what changes the room -/
def passedTo (l : List QE) (m : Nat) : List QE := (l.take m).map QE.bump ++ l.drop m
theorem passedTo_get (l : List QE) (m : Nat) : (passedTo l m)[m]? = l[m]? := by
  unfold passedTo
  by_cases h : m ≤ l.length
  · rw [List.getElem?_append_right (by rw [List.length_map, List.length_take]; omega), List.length_map, List.length_take, Nat.min_eq_left h, Nat.sub_self, List.getElem?_drop]
    rfl
  · rw [List.getElem?_eq_none (by rw [List.length_append, List.length_map, List.length_take, List.length_drop]; omega), List.getElem?_eq_none (by omega)]
theorem passedTo_set {l : List QE} {m : Nat} {e : QE} (h : l[m]? = some e) : (passedTo l m).set m e.bump = passedTo l (m + 1) := by
  obtain ⟨hm, he⟩ := List.getElem?_eq_some_iff.mp h
  unfold passedTo
  have ll : ((l.take m).map QE.bump).length = m := by rw [List.length_map, List.length_take, Nat.min_eq_left (by omega)]
  rw [List.set_append_right (h := by rw [ll]; exact Nat.le_refl _), ll, Nat.sub_self, List.drop_eq_getElem_cons hm, List.set_cons_zero, List.take_succ, h, Option.toList_some, List.map_append, List.append_assoc]
  rfl
theorem passedTo_erase {l : List QE} {m : Nat} (h : m < l.length) : (passedTo l m).eraseIdx m = (l.take m).map QE.bump ++ l.drop (m + 1) := by
  unfold passedTo
  have ll : ((l.take m).map QE.bump).length = m := by rw [List.length_map, List.length_take, Nat.min_eq_left (by omega)]
  rw [List.eraseIdx_append_of_length_le (by rw [ll]; exact Nat.le_refl _), ll, Nat.sub_self, List.drop_eq_getElem_cons h]
  rfl
theorem passedTo_len {l : List QE} {m : Nat} : (passedTo l m).length = l.length := by
  unfold passedTo
  rw [List.length_append, List.length_map, List.length_take, List.length_drop]
  omega
def spCount (K : PySem.W.Frag) (P : Addr) : Sp := fun vs H Q _ => ∃ (r : Rm) (m : Nat), vs = [.ref r.p, .int (m : Int)] ∧ r.At K P H ∧ m < r.s.queue.length ∧ r.s.queue.length ≤ 10000 ∧ ∀ H1, Ch r.L H H1 → ({ r with s := { r.s with queue := passedTo r.s.queue m } } : Rm).At K P H1 → Q .non H1
/-- who begins next begins -/
def RBeg (K : PySem.W.Frag) (P : Addr) (H : Hp) (r : Rm) (Q : VK) : Prop := match r.s.next r.seats r.pat with
  | .none => RV .non H Q
  | some i => ∀ H1 t, Ch r.L H H1 → H t = none → H1 t = some (.tup (P2.vs (r.s.pr i))) → ({ r with s := r.s.began i } : Rm).At K P H1 → Q (.ref t) H1
def spBegin (K : PySem.W.Frag) (P : Addr) : Sp := fun vs H Q _ => ∃ (r : Rm), vs = [.ref r.p] ∧ r.At K P H ∧ r.s.ok ∧ r.s.people ≤ 10000 ∧ RBeg K P H r Q
def spBegAsked (K : PySem.W.Frag) (P : Addr) : Sp := fun vs H Q _ => ∃ (r : Rm), vs = [.ref r.p] ∧ r.At K P H ∧ r.s.ok ∧ r.s.people ≤ 10000 ∧ r.s.asked ≠ none ∧ RBeg K P H r Q
def Now.goOut (s : Now) (z : Str) : Now := { s with asked := if s.asked = some z then Option.none else s.asked, alone := if s.alone = some z then Option.none else s.alone, reading := if s.alone = some z then s.reading else s.reading.filter fun x => decide (x ≠ z) }
def spGoOut (K : PySem.W.Frag) (P : Addr) : Sp := fun vs H Q _ => ∃ (r : Rm) (z : Str), vs = [.ref r.p, .str z] ∧ r.At K P H ∧ r.s.isIn z = true ∧ ∀ H1, Ch r.L H H1 → ({ r with s := r.s.goOut z } : Rm).At K P H1 → Q .non H1
def begRow (p : Str × Str) : JRow := ["begins", p.1, p.2]
def RSet (K : PySem.W.Frag) (P : Addr) (H : Hp) (r : Rm) (s1 : Now) (row : JRow) (Q : VK) : Prop := ∀ (H1 : Hp) (l : Addr) (xs : List V) (pr : List (Str × Str)) (s' : Now), Ch r.L H H1 → H l = none → H1 l = some (.lst xs) → TupsAt H1 P2.vs xs pr → Settles r.seats r.pat s1 pr s' →
  ({ r with s := s', rows := r.rows ++ row :: pr.map begRow } : Rm).At K P H1 → Q (.ref l) H1
def spSettle (K : PySem.W.Frag) (P : Addr) : Sp := fun vs H Q _ => ∃ (r : Rm) (t : Addr) (row : JRow), vs = [.ref r.p, .ref t] ∧ r.At K P H ∧ r.s.ok ∧ r.s.people ≤ 10000 ∧ r.rows.length + r.s.left ≤ 50000 ∧ H t = some (.tup row.vs) ∧ RSet K P H r r.s row Q
/-! #### the deeds -/
def refCome (s : Now) (v w : V) : Option Str := if nameV v = true then (if wishV w = true then (if knownV s v = true then some "Known" else none) else some "BadWish") else some "BadName"
def aloneV (s : Now) : V → Bool
  | .str z => decide (s.alone = some z)
  | _ => false
def refAsk (s : Now) (v : V) : Option Str := match refIn s v with
  | some x => some x
  | none => if aloneV s v = true then some "Writes" else if s.asked ≠ none then some "Asked" else none
def refEase (s : Now) (v : V) : Option Str := match refIn s v with
  | some x => some x
  | none => if aloneV s v = true then none else some "Reads"
def refPassed (s : Now) (v : V) : Option Str := if knownV s v = true then (if insideV s v = true then some "Inside" else none) else some "Stranger"
def spCome (K : PySem.W.Frag) (P : Addr) : Sp := fun vs H Q E => ∃ (r : Rm) (n : Nat) (v w : V), vs = [.ref r.p, v, w] ∧ r.At K P H ∧ r.fine n ∧ Thing K v H ∧ Thing K w H ∧ Grd K H E (refCome r.s v w) (∀ z x, v = .str z → w = .str x → RSet K P H r (r.s.done ⟨wCame, z, x⟩) [wCame, z, x] Q)
def spOne (K : PySem.W.Frag) (P : Addr) (ref : Now → V → Option Str) (word : Str) : Sp := fun vs H Q E => ∃ (r : Rm) (n : Nat) (v : V), vs = [.ref r.p, v] ∧ r.At K P H ∧ r.fine n ∧ Thing K v H ∧ Grd K H E (ref r.s v) (∀ z, v = .str z → RSet K P H r (r.s.done ⟨word, z, rd⟩) [word, z] Q)
def spPassed (K : PySem.W.Frag) (P : Addr) : Sp := fun vs H Q E => ∃ (r : Rm) (v : V), vs = [.ref r.p, v] ∧ r.At K P H ∧ r.s.ok ∧ Thing K v H ∧ Grd K H E (refPassed r.s v) (∀ z j e, v = .str z → findAt z r.s.queue 0 = some j → r.s.queue[j]? = some e → RV (.int e.often) H Q)
/-! #### what the room tells -/
def spReaders (K : PySem.W.Frag) (P : Addr) : Sp := fun vs H Q _ => ∃ r : Rm, vs = [.ref r.p] ∧ r.At K P H ∧ RL (r.s.reading.map V.str) H Q
def spWriter (K : PySem.W.Frag) (P : Addr) : Sp := fun vs H Q _ => ∃ r : Rm, vs = [.ref r.p] ∧ r.At K P H ∧ RV (optV r.s.alone) H Q
def spAsker (K : PySem.W.Frag) (P : Addr) : Sp := fun vs H Q _ => ∃ r : Rm, vs = [.ref r.p] ∧ r.At K P H ∧ RV (optV r.s.asked) H Q
def NewTups {α : Type} (H : Hp) (f : α → List V) (l : List α) (v : V) (H1 : Hp) : Prop := ∃ la ya, v = .ref la ∧ H la = none ∧ H1 la = some (.lst ya) ∧ TupsAt H1 f ya l
def QE.pair (e : QE) : Str × Str := (e.who, e.wish)
def spLine (K : PySem.W.Frag) (P : Addr) : Sp := fun vs H Q _ => ∃ r : Rm, vs = [.ref r.p] ∧ r.At K P H ∧ r.s.queue.length ≤ 10000 ∧ RR_ (NewTups H P2.vs (r.s.queue.map QE.pair)) H Q
def spJournal (K : PySem.W.Frag) (P : Addr) : Sp := fun vs H Q _ => ∃ r : Rm, vs = [.ref r.p] ∧ r.At K P H ∧ RR_ (NewTups H JRow.vs r.rows) H Q
theorem sl_readers {K : PySem.W.Frag} {P : Addr} {H : Hp} {r : Rm} (h : r.At K P H) : SpL (spReaders K P) [.ref r.p] H (r.s.reading.map V.str) := fun H1 Q E g q => ⟨r, rfl, h.mono g, q⟩
theorem sv_writer {K : PySem.W.Frag} {P : Addr} {H : Hp} {r : Rm} (h : r.At K P H) : SpV (spWriter K P) [.ref r.p] H (optV r.s.alone) := fun H1 Q E g q => ⟨r, rfl, h.mono g, q⟩
theorem sv_asker {K : PySem.W.Frag} {P : Addr} {H : Hp} {r : Rm} (h : r.At K P H) : SpV (spAsker K P) [.ref r.p] H (optV r.s.asked) := fun H1 Q E g q => ⟨r, rfl, h.mono g, q⟩
theorem NewTups.back {α : Type} {H H1 H2 : Hp} {f : α → List V} {l : List α} {v : V} (g : Gr H H1) (h : NewTups H1 f l v H2) : NewTups H f l v H2 := let ⟨la, ya, a, b, c⟩ := h; ⟨la, ya, a, g.free b, c⟩
theorem NewTups.mono {α : Type} {H H1 H2 : Hp} {f : α → List V} {l : List α} {v : V} (g : Gr H1 H2) (h : NewTups H f l v H1) : NewTups H f l v H2 := let ⟨la, ya, a, b, c, t⟩ := h; ⟨la, ya, a, b, g.lst c, t.mono g⟩
theorem sr_line {K : PySem.W.Frag} {P : Addr} {H : Hp} {r : Rm} (h : r.At K P H) (n : r.s.queue.length ≤ 10000) : SpR (spLine K P) [.ref r.p] H (NewTups H P2.vs (r.s.queue.map QE.pair)) := fun H1 Q E g q => ⟨r, rfl, h.mono g, n, fun v H2 g2 k => q v H2 g2 (k.back g)⟩
theorem sr_journal {K : PySem.W.Frag} {P : Addr} {H : Hp} {r : Rm} (h : r.At K P H) : SpR (spJournal K P) [.ref r.p] H (NewTups H JRow.vs r.rows) := fun H1 Q E g q => ⟨r, rfl, h.mono g, fun v H2 g2 k => q v H2 g2 (k.back g)⟩
/-! #### a new room -/
/-- whole numbers in bounds; things that are none -/
def NoInt (K : PySem.W.Frag) (v : V) (H : Hp) : Prop := ∃ n : String, TyX K H v (.type n) ∧ PySem.W.kitOne K (.type n) (.type "int") = some false
theorem NoInt.mono {K : PySem.W.Frag} {v : V} {H H' : Hp} (g : Gr H H') (h : NoInt K v H) : NoInt K v H' := let ⟨n, a, b⟩ := h; ⟨n, g.tyX a, b⟩
/-- a number, true or false, or what is no int -/
def Num3 (K : PySem.W.Frag) (v : V) (H : Hp) : Prop := (∃ i, v = .int i) ∨ (∃ b, v = .bl b) ∨ (NoInt K v H ∧ (∀ i, v ≠ .int i))
theorem Num3.mono {K : PySem.W.Frag} {v : V} {H H' : Hp} (g : Gr H H') (h : Num3 K v H) : Num3 K v H' := h.imp id fun h => h.imp id fun ⟨a, b⟩ => ⟨a.mono g, b⟩
def numV (least : Int) : V → Bool
  | .int i => decide (least ≤ i) && decide (i ≤ 1000000000)
  | _ => false
def spIsNumber (K : PySem.W.Frag) : Sp := fun vs H Q _ => ∃ (v : V) (l : Int), vs = [v, .int l] ∧ Num3 K v H ∧ RV (.bl (numV l v)) H Q
theorem sv_isnumber {K : PySem.W.Frag} {H : Hp} {v : V} {l : Int} (h : Num3 K v H) : SpV (spIsNumber K) [v, .int l] H (.bl (numV l v)) := fun H1 Q E g q => ⟨v, l, rfl, h.mono g, q⟩
def spInit (K : PySem.W.Frag) (P : Addr) : Sp := fun vs H Q E => ∃ (p dx : Addr) (v w : V), vs = [.ref p, v, w] ∧ H p = some (.ins (He.ga K "Room") dx []) ∧ GxR.TabG H P ∧ Num3 K v H ∧ Num3 K w H ∧
  ((numV 1 v && numV 0 w) = false → ∀ H1, Gr H H1 → E (.ref (He.ga K "BadNumber")) none H1) ∧
  ((numV 1 v && numV 0 w) = true → ∀ (a : RAd) (seats pat : Int) H1, v = .int seats → w = .int pat → Ch (fun x => x = p) H H1 → H a.rd = none → H a.ln = none → H a.rw = none → a.dx = dx → (⟨p, a, seats, pat, Now.none, []⟩ : Rm).At K P H1 → Q .non H1)
def if1 (s : Int) : List (Str × V) := [("seats", .int s)]
def if2 (s p : Int) : List (Str × V) := if1 s ++ ([("patience", .int p)] : List (Str × V))
def if3 (s p : Int) (d : Addr) : List (Str × V) := if2 s p ++ ([("_readers", .ref d)] : List (Str × V))
def if4 (s p : Int) (d : Addr) : List (Str × V) := if3 s p d ++ ([("_writer", .non)] : List (Str × V))
def if5 (s p : Int) (d : Addr) : List (Str × V) := if4 s p d ++ ([("_asker", .non)] : List (Str × V))
def if6 (s p : Int) (d l : Addr) : List (Str × V) := if5 s p d ++ ([("_line", .ref l)] : List (Str × V))
theorem put_if1 {s : Int} : putF "seats" (.int s) [] = if1 s := rfl
theorem put_if2 {s p : Int} : putF "patience" (.int p) (if1 s) = if2 s p := put_new (show ∀ g ∈ (["seats"] : List Str), g ≠ "patience" by decide +kernel)
theorem put_if3 {s p : Int} {d : Addr} : putF "_readers" (.ref d) (if2 s p) = if3 s p d := put_new (show ∀ g ∈ (["seats", "patience"] : List Str), g ≠ "_readers" by decide +kernel)
theorem put_if4 {s p : Int} {d : Addr} : putF "_writer" .non (if3 s p d) = if4 s p d := put_new (show ∀ g ∈ (["seats", "patience", "_readers"] : List Str), g ≠ "_writer" by decide +kernel)
theorem put_if5 {s p : Int} {d : Addr} : putF "_asker" .non (if4 s p d) = if5 s p d := put_new (show ∀ g ∈ (["seats", "patience", "_readers", "_writer"] : List Str), g ≠ "_asker" by decide +kernel)
theorem put_if6 {s p : Int} {d l : Addr} : putF "_line" (.ref l) (if5 s p d) = if6 s p d l := put_new (show ∀ g ∈ (["seats", "patience", "_readers", "_writer", "_asker"] : List Str), g ≠ "_line" by decide +kernel)
theorem put_if7 {s p : Int} {a : RAd} : putF "_rows" (.ref a.rw) (if6 s p a.rd a.ln) = rfs s p a .non .non := put_new (show ∀ g ∈ (["seats", "patience", "_readers", "_writer", "_asker", "_line"] : List Str), g ≠ "_rows" by decide +kernel)


/-! ### a deed of the law, done or refused -/
def Deed.fair (d : Deed) : Prop := (d.word = wCame ∨ d.word = wLeft ∨ d.word = wAsked ∨ d.word = wEased) ∧ nameB d.who = true ∧ (d.word = wCame → d.wish = rd ∨ d.wish = wr)
theorem Deed.good.fair {d : Deed} (g : d.good) : d.fair := ⟨g.1, g.2.1, fun _ => g.2.2⟩
def spDo (K : PySem.W.Frag) (P : Addr) : Sp := fun vs H Q _ => ∃ (r : Rm) (n : Nat) (pd : Addr) (d : Deed), vs = [.ref r.p, .ref pd] ∧ r.At K P H ∧ r.fine n ∧ H pd = some (.tup d.vs) ∧ d.fair ∧ (r.s.refused d = true → RV .non H Q) ∧ (r.s.refused d = false → RSet K P H r (r.s.done d) d.row Q)
theorem refCome_is {s : Now} {z x : Str} (hz : nameB z = true) (hx : x = rd ∨ x = wr) : refCome s (.str z) (.str x) = if s.known z = true then some ("Known" : Str) else none := by
  unfold refCome
  rw [if_pos (show nameV (.str z) = true from hz), if_pos (show wishV (.str x) = true from by
    show (decide (x = rd) || decide (x = wr)) = true
    simpa only [Bool.or_eq_true, decide_eq_true_eq] using hx)]
  rfl
theorem known_of {s : Now} {z : Str} (h : s.isIn z = true) : s.known z = true := by
  rw [Now.known_is, h, Bool.true_or]
theorem refAsk_is {s : Now} (o : s.ok) {z x : Str} : (s.refused ⟨wAsked, z, x⟩ = false ∧ refAsk s (.str z) = none) ∨ (s.refused ⟨wAsked, z, x⟩ = true ∧ ∃ e, refAsk s (.str z) = some e ∧ (e = "Stranger" ∨ e = "Outside" ∨ e = "Writes" ∨ e = "Asked")) := by
  rw [refused_asked]
  unfold refAsk refIn
  by_cases hk : s.known z = true
  · rw [if_pos (show knownV s (.str z) = true from hk)]
    by_cases hi : s.isIn z = true
    · rw [if_pos (show insideV s (.str z) = true from hi)]
      dsimp only
      by_cases ha : s.alone = some z
      · rw [if_pos (show aloneV s (.str z) = true from decide_eq_true ha)]
        refine .inr ⟨?_, _, rfl, .inr (.inr (.inl rfl))⟩
        rw [decide_eq_false (show ¬ z ∈ s.reading by rw [(o.ad z ha).1]; exact List.not_mem_nil)]
        rfl
      · rw [if_neg (show ¬ aloneV s (.str z) = true by rw [show aloneV s (.str z) = decide (s.alone = some z) from rfl, decide_eq_false ha]; exact Bool.false_ne_true)]
        have mr : z ∈ s.reading := by
          unfold Now.isIn at hi
          rw [decide_eq_false ha, Bool.or_false] at hi
          exact of_decide_eq_true hi
        rw [decide_eq_true mr]
        by_cases hs : s.asked = none
        · rw [if_neg (fun w => w hs), hs]
          exact .inl ⟨rfl, rfl⟩
        · rw [if_pos hs, decide_eq_true hs]
          exact .inr ⟨rfl, _, rfl, .inr (.inr (.inr rfl))⟩
    · rw [if_neg (show ¬ insideV s (.str z) = true from hi)]
      refine .inr ⟨?_, _, rfl, .inr (.inl rfl)⟩
      have nr : ¬ z ∈ s.reading := fun w => hi (by unfold Now.isIn; rw [decide_eq_true w, Bool.true_or])
      rw [decide_eq_false nr]
      rfl
  · rw [if_neg (show ¬ knownV s (.str z) = true from hk)]
    refine .inr ⟨?_, _, rfl, .inl rfl⟩
    have nr : ¬ z ∈ s.reading := fun w => hk (known_of (by unfold Now.isIn; rw [decide_eq_true w, Bool.true_or]))
    rw [decide_eq_false nr]
    rfl
theorem refEase_is {s : Now} {z x : Str} : (s.refused ⟨wEased, z, x⟩ = false ∧ refEase s (.str z) = none) ∨ (s.refused ⟨wEased, z, x⟩ = true ∧ ∃ e, refEase s (.str z) = some e ∧ (e = "Stranger" ∨ e = "Outside" ∨ e = "Reads")) := by
  rw [refused_eased]
  unfold refEase refIn
  have no : ¬ s.alone = some z → (decide (s.alone = none) || decide (s.alone ≠ some z)) = true := fun h => by rw [decide_eq_true h, Bool.or_true]
  by_cases hk : s.known z = true
  · rw [if_pos (show knownV s (.str z) = true from hk)]
    by_cases hi : s.isIn z = true
    · rw [if_pos (show insideV s (.str z) = true from hi)]
      dsimp only
      by_cases ha : s.alone = some z
      · rw [if_pos (show aloneV s (.str z) = true from decide_eq_true ha), ha]
        exact .inl ⟨by simp, rfl⟩
      · rw [if_neg (show ¬ aloneV s (.str z) = true by rw [show aloneV s (.str z) = decide (s.alone = some z) from rfl, decide_eq_false ha]; exact Bool.false_ne_true)]
        exact .inr ⟨no ha, _, rfl, .inr (.inr rfl)⟩
    · rw [if_neg (show ¬ insideV s (.str z) = true from hi)]
      exact .inr ⟨no fun w => hi (by unfold Now.isIn; rw [decide_eq_true w, Bool.or_true]), _, rfl, .inr (.inl rfl)⟩
  · rw [if_neg (show ¬ knownV s (.str z) = true from hk)]
    exact .inr ⟨no fun w => hk (known_of (by unfold Now.isIn; rw [decide_eq_true w, Bool.or_true])), _, rfl, .inl rfl⟩
theorem things {K : PySem.W.Frag} {H : Hp} {z : Str} (h : z.length ≤ 100000) : Thing K (.str z) H := .inl ⟨z, rfl, h⟩
theorem name_len {z : Str} (h : nameB z = true) : z.length ≤ 100000 := by have := (nameB_is h).2.1; omega
theorem wish_len {z : Str} (h : z = rd ∨ z = wr) : z.length ≤ 100000 := by rcases h with rfl | rfl <;> decide +kernel
section
variable {K : PySem.W.Frag} {σ : L2.St} {H : Hp} {t1 : TE} {a1 : TA} {D : Ends} {p C dx : Addr} {fs : List (Str × V)} {m : Str} {vs : List V} {sp : Sp} {E : L2.St → XK}
theorem S_retMA (h : Vl t1 σ H (.ref p)) (e : H p = some (.ins C dx fs)) (l : fs.lookup m = none) (a : Ag a1 σ H vs) (k : ∀ H1, Gr H H1 → sp (.ref p :: vs) H1 D.rt (E σ)) : tRet (RX.tMethA C m sp E t1 a1) D σ H := h H _ (.refl _) fun H2 g2 => ⟨p, dx, fs, rfl, g2.ins e, l, a H2 _ g2 fun H3 g3 => k H3 (g2.trans g3)⟩
end

--CUT
theorem ok_Cell (T : Top K mg) (TB : Tabs T base) : FnOk P w K mg base CX0 1 T.f_Cell T.fd_Cell ["_law_script", "_law_k"] (spCell K) := by
  refine T.F_Cell.ok scCell (fun vs H Q E h => ?_) (fun cdv A outer s H vs Q E hr h => ?_)
  · obtain ⟨a, ns, k, rfl, hS, q⟩ := h
    rfl
  · obtain ⟨a, ns, k, rfl, hS, q⟩ := h
    refine ⟨_, (pss_cons (ps_if (pt_cmpR op_lt (pv 1) (pe_callB call_len_seq (by rfl) T.m_len PySem.boot_len (pa_cons (pv 0) pa_nil)) (nomark _))
      (pss_one (ps_ret (pe_ix ix_list (pv 0) (pv 1) (fun _ _ => rfl))))
      pss_nil)
      (pss_one (ps_ret pe_int))), ?_⟩
    refine slots (start_Cell _ _) ?_
    refine' B_when (b := decide ((k : Int) < (ns.map V.int).length)) ?h ?k1 ?k2
    (case h => walk_at "et")
    all_goals intro hb H1 e1
    · have hk' : k < ns.length := by
        have := of_decide_eq_true hb
        rw [List.length_map] at this
        omega
      have g : (ns.map V.int)[k]? = some (.int (cellAt ns k)) := by
        rw [List.getElem?_map, List.getElem?_eq_getElem hk']
        unfold cellAt
        rw [List.getD_eq_getElem?_getD, List.getElem?_eq_getElem hk']
        rfl
      exact S_ret (v_op (v_slot rfl) (v_slot rfl) (bi_ixL (e1.sl hS) (atI_nat g))) fun H2 e2 => q H2 (e1.trans e2)
    · refine S_ret v_con fun H2 e2 => ?_
      have hk : ¬ k < ns.length := by
        have := of_decide_eq_false hb
        rw [List.length_map] at this
        omega
      have g : cellAt ns k = 0 := by
        unfold cellAt
        rw [List.getD_eq_getElem?_getD, List.getElem?_eq_none (by omega)]
        rfl
      rw [g] at q
      exact q H2 (e1.trans e2)
theorem ok_Num (T : Top K mg) (TB : Tabs T base) : FnOk P w K mg base CX0 1 T.f_Num T.fd_Num ["_law_cell", "_law_least"] (spNum) := by
  refine T.F_Num.ok scNum (fun vs H Q E h => ?_) (fun cdv A outer s H vs Q E hr h => ?_)
  · obtain ⟨c, l, rfl, hl, q⟩ := h
    rfl
  · obtain ⟨c, l, rfl, hl, q⟩ := h
    refine ⟨_, (pss_cons (ps_set (i := 2) scNum.nd rfl (Or.inl rfl) (pe_op op_modN (pv 0) pe_int))
      (pss_cons (ps_if (pt_cmpR op_lt (pv 2) pe_int (nomark _))
      (pss_one (ps_ret (pe_op op_add (pv 1) (pv 2))))
      pss_nil)
      (pss_cons (ps_if (pt_cmpR op_eq (pv 2) pe_int (nomark _))
      (pss_one (ps_ret (pe_op op_add (pv 1) (pe_op op_modN (pe_op op_fdivN (pv 0) pe_int) pe_int))))
      pss_nil)
      (pss_cons (ps_if (pt_cmpR op_eq (pv 2) pe_int (nomark _))
      (pss_one (ps_ret (pe_op op_pow pe_int pe_int)))
      pss_nil)
      (pss_cons (ps_if (pt_cmpR op_eq (pv 2) pe_int (nomark _))
      (pss_one (ps_ret (pe_op op_add (pv 1) (pe_op op_modN (pe_op op_fdivN (pv 0) pe_int) (pe_op op_sub (pe_op op_add (pe_op op_pow pe_int pe_int) pe_int) (pv 1))))))
      pss_nil)
      (pss_one (ps_ret (pe_op op_add (pv 1) (pe_op op_modN (pe_op op_fdivN (pv 0) pe_int) (pe_ix ix_list (pe_lst (pa_cons pe_int (pa_cons pe_int pa_nil))) (pe_op op_sub (pv 2) pe_int) (fun _ _ => rfl))))))))))), ?_⟩
    refine slots (start_Num _ _) ?_
    have hb := fmod_in c (m := 8) (by decide)
    walk_at "set"
    intro H1 e1
    replace q := q.mono e1
    walk_at "when"
    all_goals intro hc H2 e2
    · walk_at "ret"
      intro H3 e3
      have g : numBy c l = l + c.fmod 8 := if_pos (of_decide_eq_true hc)
      rw [g] at q
      exact q H3 (e2.trans e3)
    replace q := q.mono e2
    have n1 := of_decide_eq_false hc
    walk_at "when"
    all_goals intro hc H2 e2
    · walk_at "ret"
      intro H3 e3
      have c1 : c.fmod 8 = 3 := V.int.inj (of_decide_eq_true hc)
      have g : numBy c l = l + (c.fdiv 8).fmod 9 := by unfold numBy; rw [if_neg n1, if_pos c1]
      rw [g] at q
      exact q H3 (e2.trans e3)
    replace q := q.mono e2
    have n2 : ¬ c.fmod 8 = 3 := fun z => of_decide_eq_false hc (congrArg V.int z)
    walk_at "when"
    all_goals intro hc H2 e2
    · refine S_ret (v_op v_con v_con (bi_C ⟨by decide, by decide, by decide⟩)) fun H3 e3 => ?_
      have c1 : c.fmod 8 = 4 := V.int.inj (of_decide_eq_true hc)
      have g : numBy c l = 10 ^ 9 := by unfold numBy; rw [if_neg n1, if_neg n2, if_pos c1]
      rw [g] at q
      exact q H3 (e2.trans e3)
    replace q := q.mono e2
    have n3 : ¬ c.fmod 8 = 4 := fun z => of_decide_eq_false hc (congrArg V.int z)
    walk_at "when"
    all_goals intro hc H2 e2
    · have ten : (10:Int) ^ (9:Int).toNat + 1 - l ≠ 0 := by
        have : (10:Int) ^ (9:Int).toNat = 1000000000 := by decide
        omega
      refine S_ret (v_op (v_slot rfl) (v_op (v_op (v_slot rfl) v_con (bi_C ⟨by decide, by decide⟩)) (v_op (v_op (v_op v_con v_con (bi_C ⟨by decide, by decide, by decide⟩)) v_con bi_0) (v_slot rfl) bi_0) (bi_C ten)) bi_0) fun H3 e3 => ?_
      have c1 : c.fmod 8 = 5 := V.int.inj (of_decide_eq_true hc)
      have g : numBy c l = l + (c.fdiv 8).fmod (10 ^ 9 + 1 - l) := by unfold numBy; rw [if_neg n1, if_neg n2, if_neg n3, if_pos c1]
      rw [g] at q
      exact q H3 (e2.trans e3)
    replace q := q.mono e2
    have n4 : ¬ c.fmod 8 = 5 := fun z => of_decide_eq_false hc (congrArg V.int z)
    have g : numBy c l = l + (c.fdiv 8).fmod (if c.fmod 8 = 6 then 60 else 300) := by unfold numBy; rw [if_neg n1, if_neg n2, if_neg n3, if_neg n4]
    rw [g] at q
    have at6 : atI [V.int 60, V.int 300] (c.fmod 8 - 6) = some (.int (if c.fmod 8 = 6 then 60 else 300)) := by
      rcases (by omega : c.fmod 8 = 6 ∨ c.fmod 8 = 7) with z | z
      · rw [z]; rfl
      · rw [z]; rfl
    have nz : (if c.fmod 8 = 6 then (60:Int) else 300) ≠ 0 := by split <;> decide
    refine S_ret (v_op (v_slot rfl) (v_op (v_op (v_slot rfl) v_con (bi_C ⟨by decide, by decide⟩)) (v_opL (l_lst (g_cons v_con (g_cons v_con g_nil)) (by decide)) (fun _ _ => v_op (v_slot rfl) v_con bi_0) (fun p H1 h1 _ => bi_ixL (SqL.of h1) at6)) (bi_C nz)) bi_0) fun H3 e3 => ?_
    exact q H3 e3
theorem ok_People (T : Top K mg) (TB : Tabs T base) : FnOk P w K mg base CX0 1 T.f_People T.fd_People ["_law_cell", "_law_many"] (spPeople) := by
  refine T.F_People.ok scPeople (fun vs H Q E h => ?_) (fun cdv A outer s H vs Q E hr h => ?_)
  · obtain ⟨c, n, rfl, hn, q⟩ := h
    rfl
  · obtain ⟨c, n, rfl, hn, q⟩ := h
    refine ⟨_, (pss_cons (ps_set (i := 2) scPeople.nd rfl (Or.inr rfl) pe_str)
      (pss_cons (ps_set (i := 3) scPeople.nd rfl (Or.inr rfl) pe_str)
      (pss_cons (ps_set (i := 4) scPeople.nd rfl (Or.inl rfl) (pe_op op_fdivN (pv 0) pe_int))
      (pss_cons (ps_for PassesOwn.never rfl (pi_range1 (by rfl) T.m_range (pa_cons pe_int pa_nil)) (pg_name (i := 5) scPeople.nd rfl (Or.inl rfl))
      (pss_cons (ps_set (i := 3) scPeople.nd rfl (Or.inr rfl) (pe_op op_add_str (pv 3) (pe_ix ix_str (pv 2) (pe_op op_modN (pv 4) pe_int) (fun _ _ => rfl))))
      (pss_one (ps_set (i := 4) scPeople.nd rfl (Or.inl rfl) (pe_op op_fdivN (pv 4) pe_int)))))
      (pss_cons (ps_set (i := 6) scPeople.nd rfl (Or.inl rfl) (pe_op op_modN (pv 0) pe_int))
      (pss_cons (ps_if (PW.pt (pw_and (pt_cmpR op_eq (pv 6) pe_int (nomark _)) (pw_and1 (pt_cmpR op_lt (pv 1) pe_int (nomark _)))))
      (pss_one (ps_ret (pe_lc (own := [("_law_k", 5)]) rfl scPeople.nd (pi_range1 (by rfl) T.m_range (pa_cons (pv 1) pa_nil)) (blkOk_by (own := [("_law_k", 5)]) (N := nmPeople) (sc := defScope sPeople) (by decide +kernel)) (fun _ _ _ _ _ => (pg_name (i := 5) scPeople.nd rfl (Or.inl rfl))) (fun _ _ _ _ _ => pts_nil) (fun _ _ _ _ _ => (pe_slice sl_str (pv 3) po_none (po_some (pe_op op_add (pv 5) pe_int)))))))
      pss_nil)
      (pss_cons (ps_if (PW.pt (pw_and (pt_cmpR op_eq (pv 6) pe_int (nomark _)) (pw_and1 (pt_cmpR op_lt (pv 1) pe_int (nomark _)))))
      (pss_one (ps_ret (pe_lc (own := [("_law_k", 5)]) rfl scPeople.nd (pi_range1 (by rfl) T.m_range (pa_cons (pv 1) pa_nil)) (blkOk_by (own := [("_law_k", 5)]) (N := nmPeople) (sc := defScope sPeople) (by decide +kernel)) (fun _ _ _ _ _ => (pg_name (i := 5) scPeople.nd rfl (Or.inl rfl))) (fun _ _ _ _ _ => pts_nil) (fun _ _ _ _ _ => (pe_slice sl_str (pv 3) (po_some (pe_op op_sub pe_int (pv 5))) po_none)))))
      pss_nil)
      (pss_cons (ps_set (i := 3) scPeople.nd rfl (Or.inr rfl) (pe_slice sl_str (pv 3) po_none (po_some (pe_op op_modN (pe_op op_fdivN (pv 0) pe_int) pe_int))))
      (pss_cons (ps_if (PW.pt (pw_and (pt_cmpR op_lt (pv 6) pe_int (nomark _)) (pw_and1 (pt_cmpR op_lt (pv 1) pe_int (nomark _)))))
      (pss_cons (ps_set (i := 7) scPeople.nd rfl (Or.inr rfl) (pe_slice sl_str (pv 3) po_none (po_some (pe_op op_modN (pe_op op_fdivN (pv 0) pe_int) (pe_op op_add (pe_callB call_len_str (by rfl) T.m_len PySem.boot_len (pa_cons (pv 3) pa_nil)) pe_int)))))
      (pss_cons (ps_set (i := 8) scPeople.nd rfl (Or.inr rfl) (pe_slice sl_str (pv 3) (po_some (pe_callB call_len_str (by rfl) T.m_len PySem.boot_len (pa_cons (pv 7) pa_nil))) po_none))
      (pss_one (ps_ret (pe_lc (own := [("_law_k", 5)]) rfl scPeople.nd (pi_range1 (by rfl) T.m_range (pa_cons (pv 1) pa_nil)) (blkOk_by (own := [("_law_k", 5)]) (N := nmPeople) (sc := defScope sPeople) (by decide +kernel)) (fun _ _ _ _ _ => (pg_name (i := 5) scPeople.nd rfl (Or.inl rfl))) (fun _ _ _ _ _ => pts_nil) (fun _ _ _ _ _ => (pe_op op_add_str (pe_op op_add_str (pv 7) (pe_ix ix_str (pv 2) (pe_op op_modN (pe_op op_add (pe_op op_fdivN (pv 0) pe_int) (pe_op op_mul pe_int (pv 5))) pe_int) (fun _ _ => rfl))) (pv 8))))))))
      pss_nil)
      (pss_cons (ps_set (i := 3) scPeople.nd rfl (Or.inr rfl) (pe_slice sl_str (pv 3) po_none (po_some (pe_op op_sub pe_int (pe_callTy call_int1 (by rfl) T.m_int (by decide +kernel) (pa_cons (pe_cmpR op_gt (pv 1) pe_int (nomark _)) pa_nil))))))
      (pss_one (ps_ret (pe_lc (own := [("_law_k", 5)]) rfl scPeople.nd (pi_range1 (by rfl) T.m_range (pa_cons (pv 1) pa_nil)) (blkOk_by (own := [("_law_k", 5)]) (N := nmPeople) (sc := defScope sPeople) (by decide +kernel)) (fun _ _ _ _ _ => (pg_name (i := 5) scPeople.nd rfl (Or.inl rfl))) (fun _ _ _ _ _ => pts_nil) (fun _ _ _ _ _ => (pe_op op_add_str (pv 3) (pe_callTy call_str_int (by rfl) T.m_str (by decide +kernel) (pa_cons (pv 5) pa_nil))))))))))))))))), ?_⟩
    refine slots (start_People _ _) ?_
    refine B_set v_con fun H1 e1 => ?_
    refine B_set v_con fun H2 e2 => ?_
    refine B_set (v_op (v_slot rfl) v_con (bi_C ⟨by decide, by decide⟩)) fun H3 e3 => ?_
    replace q := q.mono ((e1.trans e2).trans e3)
    clear e1 e2 e3 H1 H2
    -- the head, twelve signs
    refine B_for1 (n := 12) (g_cons v_con g_nil) (by decide) (fun m σ' H' => ∃ z y5 r, σ' = [some (.int c), some (.int (n : Int)), some (.str signs), some (.str z), some (.int r), y5, none, none, none] ∧ z.length = m ∧ Sg z ∧ Gr H3 H') (fun H4 g => ⟨_, _, _, rfl, rfl, fun k hk => absurd hk List.not_mem_nil, g⟩) ?hs ?hd
    case hs =>
      rintro m σ' H' hm ⟨z, y5, r, rfl, hz, asc, g⟩
      refine B_set (v_op (v_slot rfl) (v_op (v_slot rfl) (v_op (v_slot rfl) v_con (bi_C (show (36 : Int) ≠ 0 by decide))) (bi_sign (n := 36) (by decide +kernel) (by decide) (by decide))) (bi_cat (show z.length + 1 ≤ 100000 by omega))) fun H4 e4 => ?_
      refine S_set (v_op (v_slot rfl) v_con (bi_C ⟨by decide, by decide⟩)) fun H5 e5 => ?_
      exact ⟨_, _, _, rfl, by rw [cat_len, hz]; rfl, asc.cat (.one (sign_mod _)), (g.trans e4).trans e5⟩
    rintro σ' H4 ⟨z, y5, r, rfl, hz, asc, e4⟩
    have hz12 : z.length = 12 := hz
    refine B_set (v_op (v_slot rfl) v_con (bi_C (show (6 : Int) ≠ 0 by decide))) fun H5 e5 => ?_
    replace q := q.mono (e4.trans e5)
    have nat : ((n : Int)).toNat = n := by omega
    have bn : 0 ≤ (n : Int) ∧ (n : Int) ≤ 40000 := by omega
    generalize c.fmod 6 = way
    -- the first n signs, the last n signs
    refine' B_when (s_and (b := decide (way = 0)) (Ts.is (s_test (v_op (v_slot rfl) v_con (bi_eq rfl))) ?ea) (fun _ => s_test (v_op (v_slot rfl) v_con bi_0))) ?y1 ?n1
    case ea => exact decide_eq_decide.mpr ⟨V.int.inj, congrArg V.int⟩
    case y1 =>
      intro hb6 H6 e6
      have n13 : (n : Int) < 13 := of_decide_eq_true (Bool.and_eq_true_iff.mp hb6).2
      refine S_retL (l_cmp1 (fun _ => true) (fun m => .str (cutS z none (some ((m : Int) + 1)))) (g_cons (v_slot rfl) g_nil) bn (fun _ => rfl) (fun _ _ _ _ => s_yes) (fun m H7 _ _ _ => v_slS (v_slot rfl) p_no (p_int (v_op (v_slot rfl) v_con bi_0)) (by omega))) fun p H7 hp e7 h7 => ?_
      rw [nat] at h7
      refine q _ _ (e6.trans e7) (names_out (s := fun m => cutS z none (some ((m : Int) + 1))) (fun m hm => ?_) (fun _ i j hi hj e => ?_) h7)
      · have l := cut_to z (m + 1)
        rw [show (((m + 1 : Nat)) : Int) = (m : Int) + 1 from rfl, hz12] at l
        exact nameB_of (by omega) (by omega) (asc.cut _ _)
      · have l1 := cut_to z (i + 1)
        have l2 := cut_to z (j + 1)
        rw [show (((i + 1 : Nat)) : Int) = (i : Int) + 1 from rfl, hz12, show cutS z none (some ((i : Int) + 1)) = cutS z none (some ((j : Int) + 1)) from e] at l1
        rw [show (((j + 1 : Nat)) : Int) = (j : Int) + 1 from rfl, hz12] at l2
        omega
    intro _ H6 e6
    replace q := q.mono e6
    refine' B_when (s_and (b := decide (way = 1)) (Ts.is (s_test (v_op (v_slot rfl) v_con (bi_eq rfl))) ?eb) (fun _ => s_test (v_op (v_slot rfl) v_con bi_0))) ?y2 ?n2
    case eb => exact decide_eq_decide.mpr ⟨V.int.inj, congrArg V.int⟩
    case y2 =>
      intro hb7 H7 e7
      refine S_retL (l_cmp1 (fun _ => true) (fun m => .str (cutS z (some (11 - (m : Int))) none)) (g_cons (v_slot rfl) g_nil) bn (fun _ => rfl) (fun _ _ _ _ => s_yes) (fun m H8 _ _ _ => v_slS (v_slot rfl) (p_int (v_op v_con (v_slot rfl) bi_0)) p_no (by omega))) fun p H8 hp e8 h8 => ?_
      rw [nat] at h8
      refine q _ _ (e7.trans e8) (names_out (s := fun m => cutS z (some (11 - (m : Int))) none) (fun m hm => ?_) (fun hn4 i j hi hj e => ?_) h8)
      · have l := cut_from z (11 - m)
        have n13 : (n : Int) < 13 := by
          have := (Bool.and_eq_true_iff.mp hb7).2
          exact of_decide_eq_true this
        rw [show (((11 - m : Nat)) : Int) = 11 - (m : Int) by omega, hz12] at l
        exact nameB_of (by omega) (by omega) (asc.cut _ _)
      · have l1 := cut_from z (11 - i)
        have l2 := cut_from z (11 - j)
        rw [show (((11 - i : Nat)) : Int) = 11 - (i : Int) by omega, hz12, show cutS z (some (11 - (i : Int))) none = cutS z (some (11 - (j : Int))) none from e] at l1
        rw [show (((11 - j : Nat)) : Int) = 11 - (j : Int) by omega, hz12] at l2
        omega
    intro _ H7 e7
    replace q := q.mono e7
    refine B_set (v_slS (v_slot rfl) p_no (p_int (v_op (v_op (v_slot rfl) v_con (bi_C ⟨by decide, by decide⟩)) v_con (bi_C (show (12 : Int) ≠ 0 by decide)))) (by omega)) fun H8 e8 => ?_
    replace q := q.mono e8
    have b12 := fmod_in (c.fdiv 6) (m := 12) (by decide)
    have hz2 : (cutS z none (some ((c.fdiv 6).fmod 12))).length ≤ 11 := by
      have l := cut_to z ((c.fdiv 6).fmod 12).toNat
      rw [Int.toNat_of_nonneg b12.1] at l
      omega
    have asc2 := asc.cut none (some ((c.fdiv 6).fmod 12))
    generalize cutS z none (some ((c.fdiv 6).fmod 12)) = z2 at hz2 asc2 ⊢
    -- a sign drawn between
    refine' B_when (s_and (s_test (v_op (v_slot rfl) v_con bi_0)) (fun _ => s_test (v_op (v_slot rfl) v_con bi_0))) ?y3 ?n3
    case y3 =>
      intro _ H9 e9
      refine B_set (v_slS (v_slot rfl) p_no (p_int (v_op (v_op (v_slot rfl) v_con (bi_C ⟨by decide, by decide⟩)) (v_op (v_lenS (v_slot rfl) (by omega)) v_con bi_0) (bi_C (show (z2.length : Int) + 1 ≠ 0 by omega)))) (by omega)) fun H10 e10 => ?_
      have bL := fmod_in (c.fdiv 5) (m := (z2.length : Int) + 1) (by omega)
      have lL : (cutS z2 none (some ((c.fdiv 5).fmod ((z2.length : Int) + 1)))).length ≤ z2.length := cut_len _ _ _
      have aL := asc2.cut none (some ((c.fdiv 5).fmod ((z2.length : Int) + 1)))
      generalize cutS z2 none (some ((c.fdiv 5).fmod ((z2.length : Int) + 1))) = zl at lL aL ⊢
      refine B_set (v_slS (v_slot rfl) (p_int (v_lenS (v_slot rfl) (by omega))) p_no (by omega)) fun H11 e11 => ?_
      have lR := cut_from z2 zl.length
      have aR := asc2.cut (some (zl.length : Int)) none
      generalize cutS z2 (some (zl.length : Int)) none = zr at lR aR ⊢
      have one : ∀ k : Nat, (⟨#[k]⟩ : Str).length = 1 := fun _ => rfl
      refine S_retL (l_cmp1 (fun _ => true) (fun m => .str (zl ++ ⟨#[signs.cps.toList.getD (((c.fdiv 7) + 7 * (m : Int)).fmod 36).toNat 0]⟩ ++ zr)) (g_cons (v_slot rfl) g_nil) bn (fun _ => rfl) (fun _ _ _ _ => s_yes) (fun m H12 _ _ _ => v_op (v_op (v_slot rfl) (v_op (v_slot rfl) (v_op (v_op (v_op (v_slot rfl) v_con (bi_C ⟨by decide, by decide⟩)) (v_op v_con (v_slot rfl) (bi_C (.inl ⟨by decide, by decide⟩))) bi_0) v_con (bi_C (show (36 : Int) ≠ 0 by decide))) (bi_sign (n := 36) (by decide +kernel) (by decide) (by decide))) (bi_cat (by rw [one]; omega))) (v_slot rfl) (bi_cat (by rw [cat_len, one]; omega)))) fun p H12 hp e12 h12 => ?_
      rw [nat] at h12
      refine q _ _ (((e9.trans e10).trans e11).trans e12) (names_out (s := fun m => zl ++ ⟨#[signs.cps.toList.getD (((c.fdiv 7) + 7 * (m : Int)).fmod 36).toNat 0]⟩ ++ zr) (fun m _ => nameB_of (by rw [cat_len, cat_len, one]; omega) (by rw [cat_len, cat_len, one]; omega) ((aL.cat (.one (sign_mod _))).cat aR)) (fun hn4 i j hi hj e => by
        have h1 := str_cancel e
        have h2 : signs.cps.toList.getD (((c.fdiv 7) + 7 * (i : Int)).fmod 36).toNat 0 = signs.cps.toList.getD (((c.fdiv 7) + 7 * (j : Int)).fmod 36).toNat 0 := (List.cons.inj (congrArg (fun u : Str => u.cps.toList) h1)).1
        have b1 := fmod_in ((c.fdiv 7) + 7 * (i : Int)) (m := 36) (by decide)
        have b2 := fmod_in ((c.fdiv 7) + 7 * (j : Int)) (m := 36) (by decide)
        have h3 := sign_inj (by omega) (by omega) h2
        rw [Int.fmod_eq_emod_of_nonneg _ (by decide)] at b1 h3
        rw [Int.fmod_eq_emod_of_nonneg _ (by decide)] at b2 h3
        omega) h12)
    intro _ H9 e9
    replace q := q.mono e9
    -- numbers behind
    refine B_set (v_slS (v_slot rfl) p_no (p_int (v_op v_con (v_intB (v_op (v_slot rfl) v_con bi_0)) bi_0)) (by omega)) fun H10 e10 => ?_
    have hz3 : (cutS z2 none (some (10 - (if decide ((99 : Int) < (n : Int)) = true then (1 : Int) else 0)))).length ≤ (if n < 100 then 10 else 9) := by
      by_cases hn99 : (99 : Int) < (n : Int)
      · rw [decide_eq_true hn99, if_pos rfl, if_neg (by omega)]
        have l := cut_to z2 9
        have e9' : ((9 : Nat) : Int) = 10 - 1 := rfl
        rw [e9'] at l
        omega
      · rw [decide_eq_false hn99, if_neg Bool.false_ne_true, if_pos (by omega)]
        have l := cut_to z2 10
        have e9' : ((10 : Nat) : Int) = 10 - 0 := rfl
        rw [e9'] at l
        omega
    have hz3' : (cutS z2 none (some (10 - (if decide ((99 : Int) < (n : Int)) = true then (1 : Int) else 0)))).length ≤ 10 := by
      refine Nat.le_trans hz3 ?_
      split <;> omega
    have asc3 := asc2.cut none (some (10 - (if decide ((99 : Int) < (n : Int)) = true then (1 : Int) else 0)))
    generalize cutS z2 none (some (10 - (if decide ((99 : Int) < (n : Int)) = true then (1 : Int) else 0))) = z3 at hz3 hz3' asc3 ⊢
    refine S_retL (l_cmp1 (fun _ => true) (fun m => .str (z3 ++ toString (m : Int))) (g_cons (v_slot rfl) g_nil) bn (fun _ => rfl) (fun _ _ _ _ => s_yes) (fun m H11 _ hm _ => v_op (v_slot rfl) (v_str (v_slot rfl) (num_small (by omega))) (bi_cat (by have := num_len m (by omega); omega)))) fun p H11 hp e11 h11 => ?_
    rw [nat] at h11
    refine q _ _ (e10.trans e11) (names_out (s := fun m => z3 ++ toString (m : Int)) (fun m hm => ?_) (fun hn4 i j hi hj e => ?_) h11)
    · obtain ⟨t1, t2, t3⟩ := num_text m (by omega)
      have t4 := num_len m (by omega)
      refine nameB_of (by rw [cat_len]; omega) ?_ (asc3.cat t3)
      rw [cat_len]
      by_cases n100 : n < 100
      · rw [if_pos n100] at hz3
        rw [if_pos (by omega)] at t2
        omega
      · rw [if_neg n100] at hz3
        omega
    · have key : ∀ i, i < 4 → ∀ j, j < 4 → (toString ((i : Nat) : Int) : Str) = toString ((j : Nat) : Int) → i = j := by decide +kernel
      refine key i (by omega) j (by omega) (str_cancel (a := z3) (c := "") ?_)
      have nil : ∀ u : Str, u ++ ("" : Str) = u := fun u => by
        cases u
        exact congrArg Str.mk (Array.append_empty)
      rw [nil, nil]
      exact e

theorem ok_Wish (T : Top K mg) (TB : Tabs T base) : FnOk P w K mg base CX0 1 T.f_Wish T.fd_Wish ["_law_cell"] (spWish) := by
  refine T.F_Wish.ok scWish (fun vs H Q E h => ?_) (fun cdv A outer s H vs Q E hr h => ?_)
  · obtain ⟨c, rfl, q⟩ := h
    rfl
  · obtain ⟨c, rfl, q⟩ := h
    refine ⟨_, (pss_cons (ps_if (pt_cmpR op_eq (pe_op op_modN (pv 0) pe_int) pe_int (nomark _))
      (pss_one (ps_ret pe_str))
      pss_nil)
      (pss_one (ps_ret pe_str))), ?_⟩
    refine slots (start_Wish _) ?_
    refine' B_when (b := decide (c.fmod 3 = 0)) (Ts.is (s_test (v_op (v_op (v_slot rfl) v_con (bi_C (show (3 : Int) ≠ 0 by decide))) v_con (bi_eq rfl))) ?e) ?y ?n
    case e => exact decide_eq_decide.mpr ⟨V.int.inj, congrArg V.int⟩
    all_goals intro hb H1 e1
    · refine S_ret v_con fun H2 e2 => ?_
      have e : wishOf c = wr := if_pos (of_decide_eq_true hb)
      rw [e] at q
      exact q H2 (e1.trans e2)
    · refine S_ret v_con fun H2 e2 => ?_
      have e : wishOf c = rd := if_neg (of_decide_eq_false hb)
      rw [e] at q
      exact q H2 (e1.trans e2)
-- no Alike here
--CUT
theorem ok_KnownF (T : Top K mg) (TB : Tabs T base) : FnOk P w K mg base CX0 1 T.f_KnownF T.fd_KnownF ["_law_now", "_law_who"] (spKnown) := by
  refine T.F_KnownF.ok scKnownF (fun vs H Q E h => ?_) (fun cdv A outer s H vs Q E hr h => ?_)
  · obtain ⟨p, s, w, rfl, hN, hn, q⟩ := h
    rfl
  · obtain ⟨p, s, w, rfl, hN, hn, q⟩ := h
    refine ⟨_, (pss_one (ps_ret (pe_or (pe_cmpR op_in_seq (pv 1) (pe_dget (hu_of hr) (pv 0) pe_str (fun _ _ => rfl)) (by rfl)) (pe_or (pe_cmpR op_eq (pe_dget (hu_of hr) (pv 0) pe_str (fun _ _ => rfl)) (pv 1) (nomark _)) (pe_one (pe_cmpR op_in_seq (pv 1) (pe_lc (own := [("_law_one", 2)]) rfl scKnownF.nd (pi_list (pe_dget (hu_of hr) (pv 0) pe_str (fun _ _ => rfl))) (blkOk_by (own := [("_law_one", 2)]) (N := nmKnownF) (sc := defScope sKnownF) (by decide +kernel)) (fun _ _ _ _ _ => (pg_name (i := 2) scKnownF.nd rfl (Or.inl rfl))) (fun _ _ _ _ _ => pts_nil) (fun _ _ _ _ _ => (pe_ix (r := rIxT K) ix_tup (pv 2) pe_int (fun _ _ => rfl)))) (by rfl))))))), ?_⟩
    refine slots (start_KnownF _ _) ?_
    obtain ⟨qa, ra, xs, h1, h2, h3, h4, _⟩ := hN
    have lx := h3.length
    have eo : out xs.length (fun _ => true) (fun m => V.str ((s.queue.map QE.who).getD m "")) = (s.queue.map QE.who).map V.str := by
      unfold out
      rw [List.filter_eq_self.mpr (fun _ _ => rfl)]
      refine List.ext_getElem (by simp [lx]) fun i hi1 hi2 => ?_
      have hi : i < s.queue.length := by simpa using hi2
      simp [List.getD_eq_getElem?_getD, hi]
    refine S_ret (Vl.is (v_or (v_op (v_slot rfl) (v_nowR (v_slot rfl) h1) (bi_inL (SqL.of h4) rfl (flat_strs _))) (fun _ => v_or (v_op (v_nowA (v_slot rfl) h1) (v_slot rfl) (bi_eq (scal_opt _ _))) (fun _ => v_opN (v_slot rfl) (l_cmpL (fun _ => true) (fun m => V.str ((s.queue.map QE.who).getD m "")) (v_nowQ (v_slot rfl) h1) (SqL.of h2) (by have := hn.1; omega) (fun _ => rfl) (fun _ _ _ _ _ => s_yes) (fun m u H3 e3 hu _ => ?el)) (fun pc H3 h3c _ => bi_inL (SqL.of h3c) rfl ?fl)))) ?er) fun H1 e1 => q H1 e1
    case el =>
      have hm : m < s.queue.length := by
        have := (List.getElem?_eq_some_iff.mp hu).1
        omega
      obtain ⟨pt, hpt, ht⟩ := h3.get m (List.getElem?_eq_getElem hm)
      rw [hu] at hpt
      obtain rfl := Option.some.inj hpt
      refine Vl.is (v_op (v_slot rfl) v_con (bi_ixT (SqT.of (e3.tup ht)) rfl)) ?_
      simp [List.getD_eq_getElem?_getD, hm]
    case fl => rw [eo]; exact flat_strs _
    case er =>
      rw [eo]
      simp only [if_neg Bool.false_ne_true, in_strs, optV_is, Now.known]
theorem ok_Refused (T : Top K mg) (TB : Tabs T base) : FnOk P w K mg base CX0 2 T.f_Refused T.fd_Refused ["_law_now", "_law_deed"] (spRefused) := by
  have GKnownF := ok_KnownF (P := P) (w := w) (base := base) T TB
  refine T.F_Refused.ok scRefused (fun vs H Q E h => ?_) (fun cdv A outer s H vs Q E hr h => ?_)
  · obtain ⟨p, pd, s, d, ts, rfl, hN, hn, hd, ha, q⟩ := h
    rfl
  · obtain ⟨p, pd, s, d, ts, rfl, hN, hn, hd, ha, q⟩ := h
    refine ⟨_, (pss_cons (ps_if (pt_cmpR op_eq (pe_ix ix_tup (pv 1) pe_int (fun _ _ => rfl)) pe_str (nomark _))
      (pss_one (ps_ret (pe_call GKnownF hr (by rfl) T.g_KnownF T.F_KnownF.kp T.B_KnownF .nil pass0 (pa_cons (pv 0) (pa_cons (pe_ix ix_tup (pv 1) pe_int (fun _ _ => rfl)) pa_nil)))))
      pss_nil)
      (pss_cons (ps_if (pt_cmpR op_eq (pe_ix ix_tup (pv 1) pe_int (fun _ _ => rfl)) pe_str (nomark _))
      (pss_one (ps_ret (pe_not (pe_call GKnownF hr (by rfl) T.g_KnownF T.F_KnownF.kp T.B_KnownF .nil pass0 (pa_cons (pv 0) (pa_cons (pe_ix ix_tup (pv 1) pe_int (fun _ _ => rfl)) pa_nil))))))
      pss_nil)
      (pss_cons (ps_if (pt_cmpR op_eq (pe_ix ix_tup (pv 1) pe_int (fun _ _ => rfl)) pe_str (nomark _))
      (pss_one (ps_ret (pe_or (pe_cmpR op_notIn_seq (pe_ix ix_tup (pv 1) pe_int (fun _ _ => rfl)) (pe_dget (hu_of hr) (pv 0) pe_str (fun _ _ => rfl)) (by rfl)) (pe_one (pe_cmpR op_notN (pe_dget (hu_of hr) (pv 0) pe_str (fun _ _ => rfl)) pe_non (nomark _))))))
      pss_nil)
      (pss_one (ps_ret (pe_or (pe_cmpR op_isN (pe_dget (hu_of hr) (pv 0) pe_str (fun _ _ => rfl)) pe_non (nomark _)) (pe_one (pe_cmpR op_ne (pe_dget (hu_of hr) (pv 0) pe_str (fun _ _ => rfl)) (pe_ix ix_tup (pv 1) pe_int (fun _ _ => rfl)) (nomark _))))))))), ?_⟩
    refine slots (start_Refused _ _) ?_
    obtain ⟨qa, ra, xs, h1, h2, h3, h4, l1, l2, l3⟩ := id hN
    have f0 : ∀ {H1 : Hp} {σ : L2.St}, Gr H H1 → σ[1]? = some (some (.ref pd)) → Vl (tOp (rIxT K) (tVar 1) (tC (.int 0))) σ H1 (.str d.word) := fun g s1 => v_op (v_slot s1) v_con (bi_ixT (SqT.of (g.tup hd)) ha.w)
    have f1 : ∀ {H1 : Hp} {σ : L2.St}, Gr H H1 → σ[1]? = some (some (.ref pd)) → Vl (tOp (rIxT K) (tVar 1) (tC (.int 1))) σ H1 (.str d.who) := fun g s1 => v_op (v_slot s1) v_con (bi_ixT (SqT.of (g.tup hd)) ha.n)
    have se : ∀ a b : Str, decide (V.str a = V.str b) = decide (a = b) := fun a b => decide_eq_decide.mpr ⟨V.str.inj, congrArg V.str⟩
    refine B_when (b := decide (d.word = wCame)) (Ts.is (s_test (v_op (f0 (.refl _) rfl) v_con (bi_eq rfl))) (se _ _)) (fun hb H1 e1 => ?_) fun hb H1 e1 => ?_
    · refine S_ret (v_call (g_cons (v_slot rfl) (g_cons (f1 e1 rfl) g_nil)) (sv_known (hN.mono e1) hn)) fun H2 e2 => ?_
      have e : s.refused d = s.known d.who := if_pos (of_decide_eq_true hb)
      rw [e] at q
      exact q H2 (e1.trans e2)
    have n1 := of_decide_eq_false hb
    refine B_when (b := decide (d.word = wLeft)) (Ts.is (s_test (v_op (f0 e1 rfl) v_con (bi_eq rfl))) (se _ _)) (fun hb2 H2 e2 => ?_) fun hb2 H2 e2 => ?_
    · refine S_ret (v_not (v_call (g_cons (v_slot rfl) (g_cons (f1 (e1.trans e2) rfl) g_nil)) (sv_known (hN.mono (e1.trans e2)) hn))) fun H3 e3 => ?_
      have e : s.refused d = !s.known d.who := by unfold Now.refused; rw [if_neg n1, if_pos (of_decide_eq_true hb2)]
      rw [e] at q
      exact q H3 ((e1.trans e2).trans e3)
    have n2 := of_decide_eq_false hb2
    have g2 := e1.trans e2
    refine B_when (b := decide (d.word = wAsked)) (Ts.is (s_test (v_op (f0 g2 rfl) v_con (bi_eq rfl))) (se _ _)) (fun hb3 H3 e3 => ?_) fun hb3 H3 e3 => ?_
    · have g3 := g2.trans e3
      refine S_ret (Vl.is (v_or (v_op (f1 g3 rfl) (v_nowR (v_slot rfl) (g3.dK h1)) (bi_inL (neg := true) (SqL.of (g3.lst h4)) rfl (flat_strs _))) (fun _ => v_op (v_nowK (v_slot rfl) (g3.dK h1)) v_con bi_notN)) ?er3) fun H4 e4 => q H4 (g3.trans e4)
      rw [if_pos rfl, in_strs, optV_non]
      unfold Now.refused
      rw [if_neg n1, if_neg n2, if_pos (of_decide_eq_true hb3)]
      congr 2
      exact (decide_not (p := s.asked = none)).symm
    · have g3 := g2.trans e3
      have n3 := of_decide_eq_false hb3
      refine S_ret (Vl.is (v_or (v_op (v_nowA (v_slot rfl) (g3.dK h1)) v_con bi_isN) (fun _ => v_op (v_nowA (v_slot rfl) (g3.dK h1)) (f1 g3 rfl) (bi_ne (scal_opt _ _)))) ?er4) fun H4 e4 => q H4 (g3.trans e4)
      rw [optV_non, optV_is]
      unfold Now.refused
      rw [if_neg n1, if_neg n2, if_neg n3]
      congr 2
      exact (decide_not (p := s.alone = some d.who)).symm
theorem ok_Inside (T : Top K mg) (TB : Tabs T base) : FnOk P w K mg base CX0 1 T.f_Inside T.fd_Inside ["_law_now"] (spInside) := by
  refine T.F_Inside.ok scInside (fun vs H Q E h => ?_) (fun cdv A outer s H vs Q E hr h => ?_)
  · obtain ⟨p, s, rfl, hN, q⟩ := h
    rfl
  · obtain ⟨p, s, rfl, hN, q⟩ := h
    refine ⟨_, (pss_cons (ps_if (pt_cmpR op_isN (pe_dget (hu_of hr) (pv 0) pe_str (fun _ _ => rfl)) pe_non (nomark _))
      (pss_one (ps_ret (pe_dget (hu_of hr) (pv 0) pe_str (fun _ _ => rfl))))
      pss_nil)
      (pss_one (ps_ret (pe_lst (pa_cons (pe_dget (hu_of hr) (pv 0) pe_str (fun _ _ => rfl)) pa_nil))))), ?_⟩
    refine slots (start_Inside _) ?_
    obtain ⟨qa, ra, xs, h1, h2, h3, h4, l1, l2, l3⟩ := id hN
    refine B_when (b := decide (s.alone = none)) (Ts.is (s_test (v_op (v_nowA (v_slot rfl) h1) v_con bi_isN)) (optV_non _)) (fun hb H1 e1 => ?_) fun hb H1 e1 => ?_
    · refine S_ret (v_nowR (v_slot rfl) (e1.dK h1)) fun H2 e2 => q _ H2 (e1.trans e2) ⟨ra, rfl, ?_⟩
      have e : s.inside = s.reading := by unfold Now.inside; rw [of_decide_eq_true hb]
      rw [e]
      exact (e1.trans e2).lst h4
    · refine S_retL (l_lst (g_cons (v_nowA (v_slot rfl) (e1.dK h1)) g_nil) (show 1 ≤ 100000 by decide)) fun p2 H2 hp2 e2 h22 => q _ H2 (e1.trans e2) ⟨p2, rfl, ?_⟩
      have n := of_decide_eq_false hb
      cases ea : s.alone with
      | none => exact absurd ea n
      | some a =>
        have e : s.inside = [a] := by unfold Now.inside; rw [ea]
        rw [e, h22, ea]
        rfl
theorem ok_RowF (T : Top K mg) (TB : Tabs T base) : FnOk P w K mg base CX0 1 T.f_RowF T.fd_RowF ["_law_deed"] (spRowF) := by
  refine T.F_RowF.ok scRowF (fun vs H Q E h => ?_) (fun cdv A outer s H vs Q E hr h => ?_)
  · obtain ⟨pd, d, rfl, hd, q⟩ := h
    rfl
  · obtain ⟨pd, d, rfl, hd, q⟩ := h
    refine ⟨_, (pss_cons (ps_if (pt_cmpR op_eq (pe_ix ix_tup (pv 0) pe_int (fun _ _ => rfl)) pe_str (nomark _))
      (pss_one (ps_ret (pe_tup (pa_cons (pe_ix ix_tup (pv 0) pe_int (fun _ _ => rfl)) (pa_cons (pe_ix ix_tup (pv 0) pe_int (fun _ _ => rfl)) (pa_cons (pe_ix ix_tup (pv 0) pe_int (fun _ _ => rfl)) pa_nil))))))
      pss_nil)
      (pss_one (ps_ret (pe_tup (pa_cons (pe_ix ix_tup (pv 0) pe_int (fun _ _ => rfl)) (pa_cons (pe_ix ix_tup (pv 0) pe_int (fun _ _ => rfl)) pa_nil)))))), ?_⟩
    refine slots (start_RowF _) ?_
    have se : ∀ a b : Str, decide (V.str a = V.str b) = decide (a = b) := fun a b => decide_eq_decide.mpr ⟨V.str.inj, congrArg V.str⟩
    refine B_when (b := decide (d.word = wCame)) (Ts.is (s_test (v_op (v_op (v_slot rfl) v_con (bi_ixT (SqT.of hd) rfl)) v_con (bi_eq rfl))) (se _ _)) (fun hb H1 e1 => ?_) fun hb H1 e1 => ?_
    · refine S_retR (u_tup (g_cons (v_op (v_slot rfl) v_con (bi_ixT (SqT.of (e1.tup hd)) rfl)) (g_cons (v_op (v_slot rfl) v_con (bi_ixT (SqT.of (e1.tup hd)) rfl)) (g_cons (v_op (v_slot rfl) v_con (bi_ixT (SqT.of (e1.tup hd)) rfl)) g_nil))) (show 3 ≤ 100000 by decide)).toN fun v H2 e2 ⟨t, ev, ht, h2⟩ => q v H2 (e1.trans e2) ⟨t, ev, e1.free ht, ?_⟩
      have e : d.row = [d.word, d.who, d.wish] := if_pos (of_decide_eq_true hb)
      rw [e]
      exact h2
    · refine S_retR (u_tup (g_cons (v_op (v_slot rfl) v_con (bi_ixT (SqT.of (e1.tup hd)) rfl)) (g_cons (v_op (v_slot rfl) v_con (bi_ixT (SqT.of (e1.tup hd)) rfl)) g_nil)) (show 2 ≤ 100000 by decide)).toN fun v H2 e2 ⟨t, ev, ht, h2⟩ => q v H2 (e1.trans e2) ⟨t, ev, e1.free ht, ?_⟩
      have e : d.row = [d.word, d.who] := if_neg (of_decide_eq_false hb)
      rw [e]
      exact h2
theorem ok_Pair (T : Top K mg) (TB : Tabs T base) : FnOk P w K mg base CX0 1 T.f_Pair T.fd_Pair ["_law_now", "_law_place"] (spPair) := by
  refine T.F_Pair.ok scPair (fun vs H Q E h => ?_) (fun cdv A outer s H vs Q E hr h => ?_)
  · obtain ⟨p, s, i, a, b, rfl, hN, hp, q⟩ := h
    rfl
  · obtain ⟨p, s, i, a, b, rfl, hN, hp, q⟩ := h
    refine ⟨_, (pss_cons (ps_if (pt_cmpR op_lt (pv 1) pe_int (nomark _))
      (pss_one (ps_ret (pe_tup (pa_cons (pe_dget (hu_of hr) (pv 0) pe_str (fun _ _ => rfl)) (pa_cons pe_str pa_nil)))))
      pss_nil)
      (pss_one (ps_ret (pe_tup (pa_cons (pe_ix ix_tup (pe_ix ix_list (pe_dget (hu_of hr) (pv 0) pe_str (fun _ _ => rfl)) (pv 1) (fun _ _ => rfl)) pe_int (fun _ _ => rfl)) (pa_cons (pe_ix ix_tup (pe_ix ix_list (pe_dget (hu_of hr) (pv 0) pe_str (fun _ _ => rfl)) (pv 1) (fun _ _ => rfl)) pe_int (fun _ _ => rfl)) pa_nil)))))), ?_⟩
    refine slots (start_Pair _ _) ?_
    obtain ⟨qa, ra, xs, h1, h2, h3, h4, l1, l2, l3⟩ := id hN
    rcases hp with ⟨rfl, ha, rfl⟩ | ⟨m, e, rfl, hm, rfl, rfl⟩
    · refine B_when (b := true) (Ts.is (s_test (v_op (v_slot rfl) v_con bi_0)) rfl) (fun _ H1 e1 => ?_) (fun hb => nomatch hb)
      refine S_retR (u_tup (g_cons (v_nowK (v_slot rfl) (e1.dK h1)) (g_cons v_con g_nil)) (show 2 ≤ 100000 by decide)).toN fun v H2 e2 ⟨t, ev, ht, h2'⟩ => q v H2 (e1.trans e2) ⟨t, ev, e1.free ht, ?_⟩
      rw [h2', ha]
      rfl
    · refine B_when (b := false) (Ts.is (s_test (v_op (v_slot rfl) v_con bi_0)) (decide_eq_false (by omega))) (fun hb => nomatch hb) (fun _ H1 e1 => ?_)
      obtain ⟨pt, hpt, ht⟩ := h3.get m hm
      have f : ∀ {H2 : Hp} {σ : L2.St} {k : Int} {u : V}, Gr H H2 → σ[0]? = some (some (.ref p)) → σ[1]? = some (some (.int (m : Int))) → atI (QE.vs e) k = some u → Vl (tOp (rIxT K) (tOp (rIxL K) (tDGet (tVar 0) (tC (.str "queue"))) (tVar 1)) (tC (.int k))) σ H2 u := fun g s0 s1 hk => v_op (v_op (v_nowQ (v_slot s0) (g.dK h1)) (v_slot s1) (bi_ixL (SqL.of (g.lst h2)) (atI_nat hpt))) v_con (bi_ixT (SqT.of (g.tup ht)) hk)
      exact S_retR (u_tup (g_cons (f e1 rfl rfl rfl) (g_cons (f e1 rfl rfl rfl) g_nil)) (show 2 ≤ 100000 by decide)).toN fun v H2 e2 ⟨t, ev, hnt, h2'⟩ => q v H2 (e1.trans e2) ⟨t, ev, e1.free hnt, h2'⟩
theorem ok_Fresh (T : Top K mg) (TB : Tabs T base) : FnOk P w K mg base CX0 1 T.f_Fresh T.fd_Fresh [] (spFresh) := by
  refine T.F_Fresh.ok scFresh (fun vs H Q E h => ?_) (fun cdv A outer s H vs Q E hr h => ?_)
  · obtain ⟨L, rfl, lv, q⟩ := h
    rfl
  · obtain ⟨L, rfl, lv, q⟩ := h
    refine ⟨_, (pss_one (ps_ret (pe_disp (pps_cons pe_str (pe_lst pa_nil) (pps_cons pe_str (pe_lst pa_nil) (pps_cons pe_str pe_non (pps_cons pe_str pe_non pps_nil)))) (by rfl) (by rfl) (fun z => by cases z) (by decide)))), ?_⟩
    refine slots (start_Fresh ) ?_
    intro p hp
    simp only [tPairs, tC]
    refine l_lst g_nil (show 0 ≤ 100000 by decide) _ _ (.refl _) fun pq H1 hq e1 h1 => ?_
    refine l_lst g_nil (show 0 ≤ 100000 by decide) _ _ (.refl _) fun pr H2 hr e2 h2 => ?_
    have hp2 : H2 p = some (.dK []) := (e1.trans e2).dK upd_same
    refine ⟨hp2, [(.inr "queue", .ref pq), (.inr "reading", .ref pr), (.inr "alone", .non), (.inr "asked", .non)], rfl, (show 4 ≤ 15 by decide), ?_⟩
    have em : mergeK [] [(.inr "queue", .ref pq), (.inr "reading", .ref pr), (.inr "alone", .non), (.inr "asked", .non)] = nowD (.ref pq) (.ref pr) .non .non := by
      obtain ⟨k1, k2, k3, k4, k5, k6, k7, k8, k9, k10, k11, k12⟩ := keys_ne
      simp [mergeK, putK, nowD, k1, k2, k3, k5, k6, k9]
    rw [em]
    have nq : pq ≠ p := fun z => by rw [z, upd_same] at hq; cases hq
    have nr : pr ≠ p := fun z => by rw [z, e1.dK upd_same] at hr; cases hr
    refine q _ _ ((Gr.new hp).trans (e1.trans e2) |>.chg hp) ⟨p, rfl, hp, pq, pr, [], upd_same, (upd_ne nq).trans (e2.lst h1), .nil, (upd_ne nr).trans h2, lv.new (.refl _) hp, lv.new (.new hp) hq, lv.new ((Gr.new hp).trans e1) hr⟩
theorem ok_Next (T : Top K mg) (TB : Tabs T base) : FnOk P w K mg base CX0 1 T.f_Next T.fd_Next ["_law_now", "_law_seats_here", "_law_patience_here"] (spNext) := by
  refine T.F_Next.ok scNext (fun vs H Q E h => ?_) (fun cdv A outer s H vs Q E hr h => ?_)
  · obtain ⟨p, s, seats, pat, rfl, hN, hg, q⟩ := h
    rfl
  · obtain ⟨p, s, seats, pat, rfl, hN, hg, q⟩ := h
    refine ⟨_, (pss_cons (ps_set (i := 3) scNext.nd rfl (Or.inl rfl) (pe_dget (hu_of hr) (pv 0) pe_str (fun _ _ => rfl)))
      (pss_cons (ps_if (pt_cmpR op_notN (pe_dget (hu_of hr) (pv 0) pe_str (fun _ _ => rfl)) pe_non (nomark _))
      (pss_cons (ps_if (pt_cmpR (op_eqD hr.units) (pv 3) (pe_lst (pa_cons (pe_dget (hu_of hr) (pv 0) pe_str (fun _ _ => rfl)) pa_nil)) (nomark _))
      (pss_one (ps_ret (pe_un un_neg pe_int)))
      pss_nil)
      (pss_one (ps_ret pe_non)))
      pss_nil)
      (pss_cons (ps_set (i := 4) scNext.nd rfl (Or.inl rfl) (pe_dget (hu_of hr) (pv 0) pe_str (fun _ _ => rfl)))
      (pss_cons (ps_if (PW.pt (pw_or (pt_cmpR (op_eqD hr.units) (pv 4) (pe_lst pa_nil) (nomark _)) (pw_or1 (pt_cmpR op_notN (pe_dget (hu_of hr) (pv 0) pe_str (fun _ _ => rfl)) pe_non (nomark _)))))
      (pss_one (ps_ret pe_non))
      pss_nil)
      (pss_cons (ps_if (PW.pt (pw_and (pt_cmpR op_eq (pe_ix ix_tup (pe_ix ix_list (pv 4) pe_int (fun _ _ => rfl)) pe_int (fun _ _ => rfl)) pe_str (nomark _)) (pw_and1 (pt_cmpR (op_eqD hr.units) (pv 3) (pe_lst pa_nil) (nomark _)))))
      (pss_one (ps_ret pe_int))
      pss_nil)
      (pss_cons (ps_if (pt_cmpR op_ge (pe_callB call_len_seq (by rfl) T.m_len PySem.boot_len (pa_cons (pv 3) pa_nil)) (pv 1) (nomark _))
      (pss_one (ps_ret pe_non))
      pss_nil)
      (pss_cons (ps_for PassesOwn.never rfl (pi_range1 (by rfl) T.m_range (pa_cons (pe_callB call_len_seq (by rfl) T.m_len PySem.boot_len (pa_cons (pv 4) pa_nil)) pa_nil)) (pg_name (i := 5) scNext.nd rfl (Or.inl rfl))
      (pss_cons (ps_if (pt_cmpR op_eq (pe_ix ix_tup (pe_ix ix_list (pv 4) (pv 5) (fun _ _ => rfl)) pe_int (fun _ _ => rfl)) pe_str (nomark _))
      (pss_one (ps_ret (pv 5)))
      pss_nil)
      (pss_one (ps_if (pt_cmpR op_ge (pe_ix ix_tup (pe_ix ix_list (pv 4) (pv 5) (fun _ _ => rfl)) pe_int (fun _ _ => rfl)) (pv 2) (nomark _))
      (pss_one (ps_ret pe_non))
      pss_nil))))
      (pss_one (ps_ret pe_non))))))))), ?_⟩
    refine slots (start_Next _ _ _) ?_
    obtain ⟨qa, ra, xs, h1, h2, h3, h4, l1, l2, l3⟩ := id hN
    obtain ⟨hs, g1, g2, g3, g4⟩ := hg
    have lx := h3.length
    have ln : ∀ l : List Str, (l.map V.str).length = l.length := fun l => List.length_map _
    have se : ∀ a b : Str, decide (V.str a = V.str b) = decide (a = b) := fun a b => decide_eq_decide.mpr ⟨V.str.inj, congrArg V.str⟩
    refine B_set (v_nowR (v_slot rfl) h1) fun H1 e1 => ?_
    walk_at "n"
    have sr : SeqAt.shaped (.list (s.reading.map PyData.str)) = true := shaped_strs _ fun x hx => (nameB_is (g2 x hx)).2.2.asc
    refine B_when (b := !decide (s.asked = none)) (Ts.is (s_test (v_op (v_nowK (v_slot rfl) (e1.dK h1)) v_con bi_notN)) (by rw [optV_non])) (fun hb H2 e2 => ?_) fun hb H2 e2 => ?_
    · have n := of_decide_eq_false (show decide (s.asked = none) = false by simpa using hb)
      cases ea : s.asked with
      | none => exact absurd ea n
      | some a =>
        have ee : s.next seats pat = if s.reading = [a] then some (-1) else none := by unfold Now.next; rw [ea]
        have gg := e1.trans e2
        refine B_when (b := decide (s.reading = [a])) (Ts.is (s_test (v_opN (v_slot rfl) (l_lst (g_cons (v_nowK (v_slot rfl) (gg.dK h1)) g_nil) (show 1 ≤ 100000 by decide)) fun pc H3 h3c g3c => bi_eqD (d := .list (s.reading.map PyData.str)) (e := .list ([a].map PyData.str)) (.lst (SqL.of ((gg.trans g3c).lst h4)) (dps_str _)) (.lst (SqL.of h3c) (by rw [ea]; exact dps_str [a])) sr (shaped_strs _ fun x hx => by rw [List.mem_singleton.mp hx]; exact (nameB_is (g4 a ea)).2.2.asc))) (eqv_strL _ _)) (fun hb2 H3 e3 => ?_) fun hb2 H3 e3 => ?_
        · refine S_ret (v_un v_con fun H4 Q4 _ k4 => ⟨1, rfl, k4⟩) fun H4 e4 => ?_
          rw [ee, if_pos (of_decide_eq_true hb2)] at q
          exact q H4 ((gg.trans e3).trans e4)
        · refine S_ret v_con fun H4 e4 => ?_
          rw [ee, if_neg (of_decide_eq_false hb2)] at q
          exact q H4 ((gg.trans e3).trans e4)
    have ea : s.asked = none := of_decide_eq_true (show decide (s.asked = none) = true by simpa using hb)
    have gg := e1.trans e2
    refine B_set (v_nowQ (v_slot rfl) (gg.dK h1)) fun H3 e3 => ?_
    walk_at "n"
    have g5 := gg.trans e3
    refine B_when (b := decide (s.queue = []) || !decide (s.alone = none)) (s_or (Ts.is (s_test (v_opN (v_slot rfl) (l_lst g_nil (show 0 ≤ 100000 by decide)) fun pc H4 h4c g4c => bi_eqD (.lst (SqL.of ((g5.trans g4c).lst h2)) (dps_qs (h3.mono (g5.trans g4c)))) (.lst (SqL.of h4c) .nil) (shaped_qs _ g1) (by decide +kernel))) ?eq) (fun _ => Ts.is (s_test (v_op (v_nowA (v_slot rfl) (g5.dK h1)) v_con bi_notN)) (by rw [optV_non]))) (fun hb3 H4 e4 => ?_) fun hb3 H4 e4 => ?_
    case eq =>
      rw [eqv_nil]
      unfold qsD
      cases s.queue <;> rfl
    · refine S_ret v_con fun H5 e5 => ?_
      have ee : s.next seats pat = none := by
        unfold Now.next
        rw [ea]
        cases eq : s.queue with
        | nil => rfl
        | cons e l =>
          rw [eq] at hb3
          have : s.alone ≠ none := by simpa using hb3
          exact if_pos this
      rw [ee] at q
      exact q H5 ((g5.trans e4).trans e5)
    have g6 := g5.trans e4
    obtain ⟨hq, hal⟩ : s.queue ≠ [] ∧ s.alone = none := by simpa using hb3
    obtain ⟨e0, l0, eq⟩ : ∃ e l, s.queue = e :: l := List.exists_cons_of_ne_nil hq
    obtain ⟨p0, hp0, ht0⟩ := h3.get 0 (by rw [eq]; rfl)
    refine B_when (b := decide (e0.wish = wr) && decide (s.reading = [])) (s_and (Ts.is (s_test (v_op (v_op (v_op (v_slot rfl) v_con (bi_ixL (SqL.of (g6.lst h2)) (atI_nat (j := 0) hp0))) v_con (bi_ixT (SqT.of (g6.tup ht0)) rfl)) v_con (bi_eq rfl))) (se _ _)) (fun _ => Ts.is (s_test (v_opN (v_slot rfl) (l_lst g_nil (show 0 ≤ 100000 by decide)) fun pc H5 h5c g5c => bi_eqD (d := .list (s.reading.map PyData.str)) (e := .list (([] : List Str).map PyData.str)) (.lst (SqL.of ((g6.trans g5c).lst h4)) (dps_str _)) (.lst (SqL.of h5c) .nil) sr (by decide +kernel))) (eqv_strL _ _))) (fun hb4 H5 e5 => ?_) fun hb4 H5 e5 => ?_
    · refine S_ret v_con fun H6 e6 => ?_
      have ee : s.next seats pat = some 0 := by
        unfold Now.next
        rw [ea, eq]
        have c : e0.wish = wr ∧ s.reading = [] := by simpa using hb4
        show (if s.alone ≠ none then _ else _) = _
        rw [if_neg (by simp [hal]), if_pos c]
      rw [ee] at q
      exact q H6 ((g6.trans e5).trans e6)
    have c4 : ¬ (e0.wish = wr ∧ s.reading = []) := by
      intro h
      rw [h.1, h.2] at hb4
      simp at hb4
    have g7 := g6.trans e5
    refine B_when (s_test (v_op (v_len (v_slot rfl) (SqL.of (g7.lst h4))) (v_slot rfl) bi_0)) (fun hb5 H6 e6 => ?_) fun hb5 H6 e6 => ?_
    · refine S_ret v_con fun H7 e7 => ?_
      have ee : s.next seats pat = none := by
        unfold Now.next
        rw [ea, eq]
        show (if s.alone ≠ none then _ else _) = _
        rw [if_neg (by simp [hal]), if_neg c4, if_pos]
        have := of_decide_eq_true hb5
        rw [ln] at this
        exact this
      rw [ee] at q
      exact q H7 ((g7.trans e6).trans e7)
    have g8 := g7.trans e6
    have ee : s.next seats pat = (scan pat s.queue 0).map fun k => (k : Int) := by
      unfold Now.next
      rw [ea]
      have n5 : ¬ seats ≤ (s.reading.length : Int) := by
        have := of_decide_eq_false hb5
        rw [ln] at this
        exact this
      rw [eq]
      show (if s.alone ≠ none then _ else _) = _
      rw [if_neg (by simp [hal]), if_neg c4, if_neg n5]
    rw [ee] at q
    refine B_for1 (n := (xs.length : Int)) (g_cons (v_len (v_slot rfl) (SqL.of (g8.lst h2))) g_nil) (by have := hs.1; omega) (fun m σ' H' => ∃ y5, σ' = [some (.ref p), some (.int seats), some (.int pat), some (.ref ra), some (.ref qa), y5] ∧ Gr H H' ∧ scan pat s.queue 0 = scan pat (s.queue.drop m) m) (fun H7 g => ⟨_, rfl, g8.trans g, rfl⟩) ?hs ?hd
    case hd =>
      rintro σ' H7 ⟨y5, rfl, g, es⟩
      refine S_ret v_con fun H8 e8 => ?_
      rw [es, List.drop_of_length_le (by omega)] at q
      exact q H8 (g.trans e8)
    rintro m σ' H7 hm ⟨y5, rfl, g, es⟩
    walk_at "n"
    have hm' : m < s.queue.length := by omega
    obtain ⟨pm, hpm, htm⟩ := h3.get m (List.getElem?_eq_getElem hm')
    rw [List.drop_eq_getElem_cons hm'] at es
    have f : ∀ {H8 : Hp} {k : Int} {u : V} {σ : L2.St}, Gr H H8 → σ[4]? = some (some (.ref qa)) → σ[5]? = some (some (.int (m : Int))) → atI (QE.vs s.queue[m]) k = some u → Vl (tOp (rIxT K) (tOp (rIxL K) (tVar 4) (tVar 5)) (tC (.int k))) σ H8 u := fun g8 s4 s5 hk => v_op (v_op (v_slot s4) (v_slot s5) (bi_ixL (SqL.of (g8.lst h2)) (atI_nat hpm))) v_con (bi_ixT (SqT.of (g8.tup htm)) hk)
    refine B_when (b := decide (s.queue[m].wish = rd)) (Ts.is (s_test (v_op (f g rfl rfl rfl) v_con (bi_eq rfl))) (se _ _)) (fun hb6 H8 e8 => ?_) fun hb6 H8 e8 => ?_
    · refine S_ret (v_slot rfl) fun H9 e9 => ?_
      rw [es, show scan pat (s.queue[m] :: s.queue.drop (m + 1)) m = some m from if_pos (of_decide_eq_true hb6)] at q
      exact q H9 ((g.trans e8).trans e9)
    refine S_when (b := decide (pat ≤ (s.queue[m].often : Int))) (s_test (v_op (f (g.trans e8) rfl rfl rfl) (v_slot rfl) bi_0)) (fun hb7 H9 e9 => ?_) fun hb7 H9 e9 => ?_
    · refine S_ret v_con fun H10 e10 => ?_
      rw [es, show scan pat (s.queue[m] :: s.queue.drop (m + 1)) m = none from (if_neg (of_decide_eq_false hb6)).trans (if_pos (of_decide_eq_true hb7))] at q
      exact q H10 (((g.trans e8).trans e9).trans e10)
    · refine ⟨_, rfl, (g.trans e8).trans e9, ?_⟩
      rw [es]
      exact (if_neg (of_decide_eq_false hb6)).trans (if_neg (of_decide_eq_false hb7))
theorem ok_Done (T : Top K mg) (TB : Tabs T base) : FnOk P w K mg base CX0 1 T.f_Done T.fd_Done ["_law_now", "_law_deed"] (spDone) := by
  refine T.F_Done.ok scDone (fun vs H Q E h => ?_) (fun cdv A outer s H vs Q E hr h => ?_)
  · obtain ⟨L, p, pd, s, d, ts, rfl, lv, hN, hn, hd, ha, hg, q⟩ := h
    rfl
  · obtain ⟨L, p, pd, s, d, ts, rfl, lv, hN, hn, hd, ha, hg, q⟩ := h
    refine ⟨_, (pss_cons (ps_set (i := 2) scDone.nd rfl (Or.inl rfl) (pe_callTy call_dictD (by rfl) T.m_dict (by decide +kernel) (pa_cons (pv 0) pa_nil)))
      (pss_cons (ps_set (i := 3) scDone.nd rfl (Or.inr rfl) (pe_ix ix_tup (pv 1) pe_int (fun _ _ => rfl)))
      (pss_cons (ps_if (pt_cmpR op_eq (pe_ix ix_tup (pv 1) pe_int (fun _ _ => rfl)) pe_str (nomark _))
      (pss_one (ps_dput (hu_of hr) (pv 2) pe_str (pe_op op_cat (pe_dget (hu_of hr) (pv 0) pe_str (fun _ _ => rfl)) (pe_lst (pa_cons (pe_tup (pa_cons (pv 3) (pa_cons (pe_ix ix_tup (pv 1) pe_int (fun _ _ => rfl)) (pa_cons pe_int pa_nil)))) pa_nil))) rfl))
      (pss_one (ps_if (pt_cmpR op_eq (pe_ix ix_tup (pv 1) pe_int (fun _ _ => rfl)) pe_str (nomark _))
      (pss_one (ps_dput (hu_of hr) (pv 2) pe_str (pv 3) rfl))
      (pss_one (ps_if (pt_cmpR op_eq (pe_ix ix_tup (pv 1) pe_int (fun _ _ => rfl)) pe_str (nomark _))
      (pss_cons (ps_dput (hu_of hr) (pv 2) pe_str pe_non rfl)
      (pss_one (ps_dput (hu_of hr) (pv 2) pe_str (pe_lst (pa_cons (pv 3) pa_nil)) rfl)))
      (pss_cons (ps_dput (hu_of hr) (pv 2) pe_str (pe_lc (own := [("_law_one", 4)]) rfl scDone.nd (pi_list (pe_dget (hu_of hr) (pv 0) pe_str (fun _ _ => rfl))) (blkOk_by (own := [("_law_one", 4)]) (N := nmDone) (sc := defScope sDone) (by decide +kernel)) (fun _ _ _ _ _ => (pg_name (i := 4) scDone.nd rfl (Or.inl rfl))) (fun _ _ _ _ _ => (pts_one (pt_cmpR op_ne (pe_ix (r := rIxT K) ix_tup (pv 4) pe_int (fun _ _ => rfl)) (pv 3) (nomark _)))) (fun _ _ _ _ _ => (pv 4))) rfl)
      (pss_cons (ps_dput (hu_of hr) (pv 2) pe_str (pe_lc (own := [("_law_one", 4)]) rfl scDone.nd (pi_list (pe_dget (hu_of hr) (pv 0) pe_str (fun _ _ => rfl))) (blkOk_by (own := [("_law_one", 4)]) (N := nmDone) (sc := defScope sDone) (by decide +kernel)) (fun _ _ _ _ _ => (pg_name (i := 4) scDone.nd rfl (Or.inl rfl))) (fun _ _ _ _ _ => (pts_one (pt_cmpR op_ne (pv 4) (pv 3) (nomark _)))) (fun _ _ _ _ _ => (pv 4))) rfl)
      (pss_cons (ps_if (pt_cmpR op_eq (pe_dget (hu_of hr) (pv 0) pe_str (fun _ _ => rfl)) (pv 3) (nomark _))
      (pss_one (ps_dput (hu_of hr) (pv 2) pe_str pe_non rfl))
      pss_nil)
      (pss_one (ps_if (pt_cmpR op_eq (pe_dget (hu_of hr) (pv 0) pe_str (fun _ _ => rfl)) (pv 3) (nomark _))
      (pss_one (ps_dput (hu_of hr) (pv 2) pe_str pe_non rfl))
      pss_nil))))))))))
      (pss_one (ps_ret (pv 2)))))), ?_⟩
    refine slots (start_Done _ _) ?_
    obtain ⟨qa, ra, xs, h1, h2, h3, h4, l1, l2, l3⟩ := id hN
    have lx := h3.length
    have se : ∀ a b : Str, decide (V.str a = V.str b) = decide (a = b) := fun a b => decide_eq_decide.mpr ⟨V.str.inj, congrArg V.str⟩
    have f0 : ∀ {H1 : Hp} {σ : L2.St} {k : Int} {u : V}, Gr H H1 → σ[1]? = some (some (.ref pd)) → atI ts k = some u → Vl (tOp (rIxT K) (tVar 1) (tC (.int k))) σ H1 u := fun g s1 hk => v_op (v_slot s1) v_con (bi_ixT (SqT.of (g.tup hd)) hk)
    refine B_setR (r_dict (v_slot rfl) h1) fun v H1 e1 ⟨n, ev, hn0, h1n⟩ => ?_
    subst ev
    walk_at "n"
    refine B_set (f0 e1 rfl ha.n) fun H2 e2 => ?_
    walk_at "n"
    have g2 := e1.trans e2
    have h2n := e2.dK h1n
    have fin : ∀ {H9 : Hp} {s' : Now}, Gr H H9 → NowAt L H9 n s' → s' = s.done d → ∀ H10, Gr H9 H10 → Q (.ref n) H10 := fun g9 hs he H10 e10 => q _ H10 (g9.trans e10) (he ▸ ⟨n, rfl, hn0, hs.mono e10⟩)
    refine B_if (b := decide (d.word = wCame)) (Ts.is (s_test (v_op (f0 g2 rfl ha.w) v_con (bi_eq rfl))) (se _ _)) (fun hb H3 e3 => ?_) fun hb H3 e3 => ?_
    · have g3 := g2.trans e3
      refine S_dputR (r_catU (v_nowQ (v_slot rfl) (g3.dK h1)) (g3.lst h2) (u_tup (g_cons (v_slot rfl) (g_cons (f0 g3 rfl (ha.x (of_decide_eq_true hb))) (g_cons v_con g_nil))) (show 3 ≤ 100000 by decide)) (by have := hn.1; omega)) (v_slot rfl) (e3.dK h2n) (show 4 ≤ 1000 by decide) (fun g ⟨l, t, a, b, c, f⟩ => ⟨l, t, a, b, g.lst c, g.tup f⟩) fun v H4 e4 ⟨l, t, ev, hl, h4l, h4t⟩ => ?_
      subst ev
      rw [put_q]
      have nl : l ≠ n := fun z => by rw [z, e3.dK h2n] at hl; cases hl
      have nt : t ≠ n := fun z => by rw [z, (e3.trans e4).dK h2n] at h4t; cases h4t
      have nr : ra ≠ n := fun z => by rw [z] at h4; rw [h4] at hn0; cases hn0
      have g4 := g3.trans e4
      refine S_ret (v_slot rfl) fun H5 e5 => fin (g4.chg hn0) (s' := { s with queue := s.queue ++ [⟨d.who, d.wish, 0⟩] }) ⟨l, ra, xs ++ [.ref t], upd_same, (upd_ne nl).trans h4l, ((h3.mono g4).chg (not_tup ((e3.trans e4).dK h2n))).snoc (r := (⟨d.who, d.wish, 0⟩ : QE)) ((upd_ne nt).trans h4t), (upd_ne nr).trans (g4.lst h4), lv.new (.refl _) hn0, lv.new g3 hl, l3⟩ (if_pos (of_decide_eq_true hb)).symm H5 e5
    have n1 := of_decide_eq_false hb
    have g3 := g2.trans e3
    have h3n := e3.dK h2n
    refine S_if (b := decide (d.word = wAsked)) (Ts.is (s_test (v_op (f0 g3 rfl ha.w) v_con (bi_eq rfl))) (se _ _)) (fun hb2 H4 e4 => ?_) fun hb2 H4 e4 => ?_
    · refine S_dput (v_slot rfl) (v_slot rfl) (e4.dK h3n) (show 4 ≤ 1000 by decide) fun H5 e5 => ?_
      rw [put_k]
      have g5 := (g3.trans e4).trans e5
      have nq : qa ≠ n := fun z => by rw [z] at h2; rw [h2] at hn0; cases hn0
      have nr : ra ≠ n := fun z => by rw [z] at h4; rw [h4] at hn0; cases hn0
      refine S_ret (v_slot rfl) fun H6 e6 => fin (g5.chg hn0) (s' := { s with asked := some d.who }) ⟨qa, ra, xs, upd_same, (upd_ne nq).trans (g5.lst h2), (h3.mono g5).chg (not_tup ((e4.trans e5).dK h3n)), (upd_ne nr).trans (g5.lst h4), lv.new (.refl _) hn0, l2, l3⟩ (by unfold Now.done; rw [if_neg n1, if_pos (of_decide_eq_true hb2)]) H6 e6
    have n2 := of_decide_eq_false hb2
    have g4 := g3.trans e4
    have h4n := e4.dK h3n
    refine S_if (b := decide (d.word = wEased)) (Ts.is (s_test (v_op (f0 g4 rfl ha.w) v_con (bi_eq rfl))) (se _ _)) (fun hb3 H5 e5 => ?_) fun hb3 H5 e5 => ?_
    · refine B_dput v_con (v_slot rfl) (e5.dK h4n) (show 4 ≤ 1000 by decide) fun H6 e6 => ?_
      rw [put_a]
      have h6 : H6 n = some (.dK (nowD (.ref qa) (.ref ra) (optV s.alone) (optV s.asked))) := (e5.trans e6).dK h4n
      have g6 := (g4.trans e5).trans e6
      refine S_dputR (Ls.toN (l_lst (g_cons (v_slot rfl) g_nil) (show 1 ≤ 100000 by decide))) (v_slot rfl) upd_same (show 4 ≤ 1000 by decide) (fun g ⟨l, a, b, c⟩ => ⟨l, a, b, g.lst c⟩) fun v H7 e7 ⟨l, ev, hl, h7l⟩ => ?_
      subst ev
      rw [put_r]
      have nl : l ≠ n := fun z => by rw [z, upd_same] at hl; cases hl
      have nq : qa ≠ n := fun z => by rw [z] at h2; rw [h2] at hn0; cases hn0
      have g7 : Gr H H7 := (g6.chg hn0).trans e7
      have t7 : TupsAt H7 QE.vs xs s.queue := h3.mono g7
      refine S_ret (v_slot rfl) fun H8 e8 => fin (g7.chg hn0) (s' := { s with alone := none, reading := [d.who] }) ⟨qa, l, xs, upd_same, (upd_ne nq).trans (g7.lst h2), t7.chg (not_tup (e7.dK upd_same)), (upd_ne nl).trans h7l, lv.new (.refl _) hn0, l2, lv.new (g6.chg hn0) hl⟩ (by unfold Now.done; rw [if_neg n1, if_neg n2, if_pos (of_decide_eq_true hb3)]) H8 e8
    have n3 := of_decide_eq_false hb3
    have g5 := g4.trans e5
    have h5n := e5.dK h4n
    have sen : ∀ a b : Str, (!decide (V.str a = V.str b)) = decide (a ≠ b) := fun a b => by rw [se]; exact (decide_not (p := a = b)).symm
    -- who goes
    refine B_dputR (Ls.toN (l_cmpL (fun m => match s.queue[m]? with | some e => decide (e.who ≠ d.who) | none => false) (fun m => xs.getD m .non) (v_nowQ (v_slot rfl) (g5.dK h1)) (SqL.of (g5.lst h2)) (by have := hn.1; omega) (fun _ => rfl) (fun m u H6 e6 hu => ?tq) (fun m u H6 e6 hu _ => ?eq))) (v_slot rfl) h5n (show 4 ≤ 1000 by decide) (fun g ⟨l, a, b, c⟩ => ⟨l, a, b, g.lst c⟩) fun v H6 e6 ⟨lq, ev, hlq, h6q⟩ => ?_
    case tq =>
      have hm : m < s.queue.length := by
        have := (List.getElem?_eq_some_iff.mp hu).1
        omega
      obtain ⟨pt, hpt, ht⟩ := h3.get m (List.getElem?_eq_getElem hm)
      rw [hu] at hpt
      obtain rfl := Option.some.inj hpt
      rw [List.getElem?_eq_getElem hm]
      exact Ts.is (s_test (v_op (v_op (v_slot rfl) v_con (bi_ixT (SqT.of ((g5.trans e6).tup ht)) rfl)) (v_slot rfl) (bi_ne rfl))) (sen _ _)
    case eq =>
      refine Vl.is (v_slot rfl) ?_
      rw [List.getD_eq_getElem?_getD, hu]
      rfl
    subst ev
    rw [put_q]
    have g6 := g5.trans e6
    have h6n := e6.dK h5n
    have nlq : lq ≠ n := fun z => by rw [z, h5n] at hlq; cases hlq
    have fq : ∃ ys, out xs.length (fun m => match s.queue[m]? with | some e => decide (e.who ≠ d.who) | none => false) (fun m => xs.getD m .non) = ys ∧ TupsAt H QE.vs ys (s.queue.filter fun e => decide (e.who ≠ d.who)) := ⟨_, rfl, by
      rw [lx]
      exact kept h3 _ _ _ (fun m e he => by rw [he]) fun m u hu => by rw [List.getD_eq_getElem?_getD, hu]; rfl⟩
    obtain ⟨ys, eys, tys⟩ := fq
    rw [eys] at h6q
    have g7 := g6.chg hn0 (o := .dK (nowD (.ref lq) (.ref ra) (optV s.alone) (optV s.asked)))
    have h7q : (upd H6 n (.dK (nowD (.ref lq) (.ref ra) (optV s.alone) (optV s.asked)))) lq = some (.lst ys) := (upd_ne nlq).trans h6q
    have h7n : (upd H6 n (.dK (nowD (.ref lq) (.ref ra) (optV s.alone) (optV s.asked)))) n = some (.dK (nowD (.ref lq) (.ref ra) (optV s.alone) (optV s.asked))) := upd_same
    generalize upd H6 n (.dK (nowD (.ref lq) (.ref ra) (optV s.alone) (optV s.asked))) = H7 at g7 h7q h7n ⊢
    refine B_dputR (Ls.toN (l_cmpL (fun m => match s.reading[m]? with | some e => decide (e ≠ d.who) | none => false) (fun m => V.str (s.reading.getD m "")) (v_nowR (v_slot rfl) (g7.dK h1)) (SqL.of (g7.lst h4)) (by have := hn.2; rw [List.length_map]; omega) (fun _ => rfl) (fun m u H8 e8 hu => ?tr) (fun m u H8 e8 hu _ => ?er))) (v_slot rfl) h7n (show 4 ≤ 1000 by decide) (fun g ⟨l, a, b, c⟩ => ⟨l, a, b, g.lst c⟩) fun v H8 e8 ⟨lr, ev, hlr, h8r⟩ => ?_
    case tr =>
      rw [List.getElem?_map] at hu
      cases e9 : s.reading[m]? with
      | none => rw [e9] at hu; cases hu
      | some w9 =>
        rw [e9] at hu
        obtain rfl := Option.some.inj hu
        exact Ts.is (s_test (v_op (v_slot rfl) (v_slot rfl) (bi_ne rfl))) (sen _ _)
    case er =>
      rw [List.getElem?_map] at hu
      cases e9 : s.reading[m]? with
      | none => rw [e9] at hu; cases hu
      | some w9 =>
        rw [e9] at hu
        obtain rfl := Option.some.inj hu
        refine Vl.is (v_slot rfl) ?_
        rw [List.getD_eq_getElem?_getD, e9]
        rfl
    subst ev
    rw [put_r]
    have e8r : out (s.reading.map V.str).length (fun m => match s.reading[m]? with | some e => decide (e ≠ d.who) | none => false) (fun m => V.str (s.reading.getD m "")) = (s.reading.filter fun x => decide (x ≠ d.who)).map V.str := by
      rw [List.length_map]
      exact out_filter s.reading _ V.str _ _ fun m x hx => by rw [hx, List.getD_eq_getElem?_getD, hx]; exact ⟨rfl, rfl⟩
    rw [e8r] at h8r
    have g8 := g7.trans e8
    have h8n := e8.dK h7n
    have nlr : lr ≠ n := fun z => by rw [z, h7n] at hlr; cases hlr
    have g9 := g8.chg hn0 (o := .dK (nowD (.ref lq) (.ref lr) (optV s.alone) (optV s.asked)))
    have h9q : (upd H8 n (.dK (nowD (.ref lq) (.ref lr) (optV s.alone) (optV s.asked)))) lq = some (.lst ys) := (upd_ne nlq).trans (e8.lst h7q)
    have h9r : (upd H8 n (.dK (nowD (.ref lq) (.ref lr) (optV s.alone) (optV s.asked)))) lr = some (.lst ((s.reading.filter fun x => decide (x ≠ d.who)).map V.str)) := (upd_ne nlr).trans h8r
    have h9n : (upd H8 n (.dK (nowD (.ref lq) (.ref lr) (optV s.alone) (optV s.asked)))) n = some (.dK (nowD (.ref lq) (.ref lr) (optV s.alone) (optV s.asked))) := upd_same
    generalize upd H8 n (.dK (nowD (.ref lq) (.ref lr) (optV s.alone) (optV s.asked))) = H9 at g9 h9q h9r h9n ⊢
    -- the last two: alone, asked
    have last : ∀ {H10 : Hp} {al ak : V}, Gr H H10 → H10 n = some (.dK (nowD (.ref lq) (.ref lr) al ak)) → H10 lq = some (.lst ys) → H10 lr = some (.lst ((s.reading.filter fun x => decide (x ≠ d.who)).map V.str)) → al = optV (if s.alone = some d.who then none else s.alone) → ak = optV (if s.asked = some d.who then none else s.asked) → ∀ H11, Gr H10 H11 → Q (.ref n) H11 := fun g10 a1 a2 a3 a4 a5 =>
      fin g10 (s' := ⟨s.queue.filter (fun e => decide (e.who ≠ d.who)), s.reading.filter (fun x => decide (x ≠ d.who)), if s.alone = some d.who then none else s.alone, if s.asked = some d.who then none else s.asked⟩) ⟨lq, lr, ys, by rw [a1, a4, a5], a2, tys.mono g10, a3, lv.new (.refl _) hn0, lv.new g5 hlq, lv.new g7 hlr⟩ (by unfold Now.done; rw [if_neg n1, if_neg n2, if_neg n3])
    refine B_when (b := decide (s.alone = some d.who)) (Ts.is (s_test (v_op (v_nowA (v_slot rfl) (g9.dK h1)) (v_slot rfl) (bi_eq (scal_opt _ _)))) (optV_is _ _)) (fun hb4 H10 e10 => ?_) fun hb4 H10 e10 => ?_
    · refine S_dput v_con (v_slot rfl) (e10.dK h9n) (show 4 ≤ 1000 by decide) fun H11 e11 => ?_
      rw [put_a]
      have g11 := ((g9.trans e10).trans e11).chg hn0 (o := .dK (nowD (.ref lq) (.ref lr) .non (optV s.asked)))
      have h11q : (upd H11 n (.dK (nowD (.ref lq) (.ref lr) .non (optV s.asked)))) lq = some (.lst ys) := (upd_ne nlq).trans ((e10.trans e11).lst h9q)
      have h11r := (upd_ne (H := H11) (o := .dK (nowD (.ref lq) (.ref lr) .non (optV s.asked))) nlr).trans ((e10.trans e11).lst h9r)
      have h11n : (upd H11 n (.dK (nowD (.ref lq) (.ref lr) .non (optV s.asked)))) n = some (.dK (nowD (.ref lq) (.ref lr) .non (optV s.asked))) := upd_same
      generalize upd H11 n (.dK (nowD (.ref lq) (.ref lr) .non (optV s.asked))) = H12 at g11 h11q h11r h11n ⊢
      refine S_when (b := decide (s.asked = some d.who)) (Ts.is (s_test (v_op (v_nowK (v_slot rfl) (g11.dK h1)) (v_slot rfl) (bi_eq (scal_opt _ _)))) (optV_is _ _)) (fun hb5 H13 e13 => ?_) fun hb5 H13 e13 => ?_
      · refine S_dput v_con (v_slot rfl) (e13.dK h11n) (show 4 ≤ 1000 by decide) fun H14 e14 => ?_
        rw [put_k]
        exact S_ret (v_slot rfl) (last (((g11.trans e13).trans e14).chg hn0) upd_same ((upd_ne nlq).trans ((e13.trans e14).lst h11q)) ((upd_ne nlr).trans ((e13.trans e14).lst h11r)) (by rw [if_pos (of_decide_eq_true hb4)]; rfl) (by rw [if_pos (of_decide_eq_true hb5)]; rfl))
      · exact S_ret (v_slot rfl) (last (g11.trans e13) (e13.dK h11n) (e13.lst h11q) (e13.lst h11r) (by rw [if_pos (of_decide_eq_true hb4)]; rfl) (by rw [if_neg (of_decide_eq_false hb5)]))
    · refine S_when (b := decide (s.asked = some d.who)) (Ts.is (s_test (v_op (v_nowK (v_slot rfl) ((g9.trans e10).dK h1)) (v_slot rfl) (bi_eq (scal_opt _ _)))) (optV_is _ _)) (fun hb5 H13 e13 => ?_) fun hb5 H13 e13 => ?_
      · refine S_dput v_con (v_slot rfl) ((e10.trans e13).dK h9n) (show 4 ≤ 1000 by decide) fun H14 e14 => ?_
        rw [put_k]
        exact S_ret (v_slot rfl) (last ((((g9.trans e10).trans e13).trans e14).chg hn0) upd_same ((upd_ne nlq).trans (((e10.trans e13).trans e14).lst h9q)) ((upd_ne nlr).trans (((e10.trans e13).trans e14).lst h9r)) (by rw [if_neg (of_decide_eq_false hb4)]) (by rw [if_pos (of_decide_eq_true hb5)]; rfl))
      · exact S_ret (v_slot rfl) (last ((g9.trans e10).trans e13) ((e10.trans e13).dK h9n) ((e10.trans e13).lst h9q) ((e10.trans e13).lst h9r) (by rw [if_neg (of_decide_eq_false hb4)]) (by rw [if_neg (of_decide_eq_false hb5)]))
theorem ok_Began (T : Top K mg) (TB : Tabs T base) : FnOk P w K mg base CX0 1 T.f_Began T.fd_Began ["_law_now", "_law_place"] (spBegan) := by
  refine T.F_Began.ok scBegan (fun vs H Q E h => ?_) (fun cdv A outer s H vs Q E hr h => ?_)
  · obtain ⟨L, p, s, i, rfl, lv, hN, hn, hi, q⟩ := h
    rfl
  · obtain ⟨L, p, s, i, rfl, lv, hN, hn, hi, q⟩ := h
    refine ⟨_, (pss_cons (ps_set (i := 2) scBegan.nd rfl (Or.inl rfl) (pe_callTy call_dictD (by rfl) T.m_dict (by decide +kernel) (pa_cons (pv 0) pa_nil)))
      (pss_cons (ps_if (pt_cmpR op_lt (pv 1) pe_int (nomark _))
      (pss_cons (ps_dput (hu_of hr) (pv 2) pe_str (pe_dget (hu_of hr) (pv 0) pe_str (fun _ _ => rfl)) rfl)
      (pss_cons (ps_dput (hu_of hr) (pv 2) pe_str pe_non rfl)
      (pss_cons (ps_dput (hu_of hr) (pv 2) pe_str (pe_lst pa_nil) rfl)
      (pss_one (ps_ret (pv 2))))))
      pss_nil)
      (pss_cons (ps_set (i := 3) scBegan.nd rfl (Or.inl rfl) (pe_ix ix_list (pe_dget (hu_of hr) (pv 0) pe_str (fun _ _ => rfl)) (pv 1) (fun _ _ => rfl)))
      (pss_cons (ps_setLc (i := 4) (own := [("_law_other", 5)]) rfl scBegan.nd rfl rfl (sw_true rfl rfl rfl (by decide +kernel)) (pi_list (pe_slice sl_list (pe_dget (hu_of hr) (pv 0) pe_str (fun _ _ => rfl)) po_none (po_some (pv 1)))) (blkOk_by (own := [("_law_other", 5)]) (N := nmBegan) (sc := defScope sBegan) (by decide +kernel)) (fun _ _ _ _ _ => (pg_name (i := 5) scBegan.nd rfl (Or.inl rfl))) (fun _ _ _ _ _ => pts_nil) (fun _ _ _ _ _ => (pe_tup (pa_cons (pe_ix (r := rIxT K) ix_tup (pv 5) pe_int (fun _ _ => rfl)) (pa_cons (pe_ix (r := rIxT K) ix_tup (pv 5) pe_int (fun _ _ => rfl)) (pa_cons (pe_op op_add (pe_ix (r := rIxT K) ix_tup (pv 5) pe_int (fun _ _ => rfl)) pe_int) pa_nil))))))
      (pss_cons (ps_dput (hu_of hr) (pv 2) pe_str (pe_op op_cat (pv 4) (pe_slice sl_list (pe_dget (hu_of hr) (pv 0) pe_str (fun _ _ => rfl)) (po_some (pe_op op_add (pv 1) pe_int)) po_none)) rfl)
      (pss_cons (ps_if (pt_cmpR op_eq (pe_ix ix_tup (pv 3) pe_int (fun _ _ => rfl)) pe_str (nomark _))
      (pss_one (ps_dput (hu_of hr) (pv 2) pe_str (pe_op op_cat (pe_dget (hu_of hr) (pv 0) pe_str (fun _ _ => rfl)) (pe_lst (pa_cons (pe_ix ix_tup (pv 3) pe_int (fun _ _ => rfl)) pa_nil))) rfl))
      (pss_one (ps_dput (hu_of hr) (pv 2) pe_str (pe_ix ix_tup (pv 3) pe_int (fun _ _ => rfl)) rfl)))
      (pss_one (ps_ret (pv 2))))))))), ?_⟩
    refine slots (start_Began _ _) ?_
    obtain ⟨qa, ra, xs, h1, h2, h3, h4, l1, l2, l3⟩ := id hN
    have lx := h3.length
    have se : ∀ a b : Str, decide (V.str a = V.str b) = decide (a = b) := fun a b => decide_eq_decide.mpr ⟨V.str.inj, congrArg V.str⟩
    refine B_setR (r_dict (v_slot rfl) h1) fun v H1 e1 ⟨n, ev, hn0, h1n⟩ => ?_
    subst ev
    walk_at "n"
    have fin : ∀ {H9 : Hp} {s' : Now}, Gr H H9 → NowAt L H9 n s' → s' = s.began i → ∀ H10, Gr H9 H10 → Q (.ref n) H10 := fun g9 hs he H10 e10 => q _ H10 (g9.trans e10) (he ▸ ⟨n, rfl, hn0, hs.mono e10⟩)
    have nq : qa ≠ n := fun z => by rw [z] at h2; rw [h2] at hn0; cases hn0
    have nr : ra ≠ n := fun z => by rw [z] at h4; rw [h4] at hn0; cases hn0
    rcases hi with rfl | ⟨m, rfl, hm⟩
    · refine B_when (b := true) (Ts.is (s_test (v_op (v_slot rfl) v_con bi_0)) rfl) (fun _ H2 e2 => ?_) (fun hb => nomatch hb)
      have g2 := e1.trans e2
      refine B_dput (v_nowK (v_slot rfl) (g2.dK h1)) (v_slot rfl) (e2.dK h1n) (show 4 ≤ 1000 by decide) fun H3 e3 => ?_
      rw [put_a]
      have g3 := (g2.trans e3).chg hn0 (o := .dK (nowD (.ref qa) (.ref ra) (optV s.asked) (optV s.asked)))
      have h3n : (upd H3 n (.dK (nowD (.ref qa) (.ref ra) (optV s.asked) (optV s.asked)))) n = _ := upd_same
      generalize upd H3 n (.dK (nowD (.ref qa) (.ref ra) (optV s.asked) (optV s.asked))) = H4 at g3 h3n ⊢
      refine B_dput v_con (v_slot rfl) h3n (show 4 ≤ 1000 by decide) fun H5 e5 => ?_
      rw [put_k]
      have g5 := (g3.trans e5).chg hn0 (o := .dK (nowD (.ref qa) (.ref ra) (optV s.asked) .non))
      have h5n : (upd H5 n (.dK (nowD (.ref qa) (.ref ra) (optV s.asked) .non))) n = _ := upd_same
      generalize upd H5 n (.dK (nowD (.ref qa) (.ref ra) (optV s.asked) .non)) = H6 at g5 h5n ⊢
      refine B_dputR (Ls.toN (l_lst g_nil (show 0 ≤ 100000 by decide))) (v_slot rfl) h5n (show 4 ≤ 1000 by decide) (fun g ⟨l, a, b, c⟩ => ⟨l, a, b, g.lst c⟩) fun v H7 e7 ⟨l, ev, hl, h7l⟩ => ?_
      subst ev
      rw [put_r]
      have nl : l ≠ n := fun z => by rw [z, h5n] at hl; cases hl
      have g7 := g5.trans e7
      exact S_ret (v_slot rfl) (fin (g7.chg hn0) (s' := { s with alone := s.asked, asked := none, reading := [] }) ⟨qa, l, xs, upd_same, (upd_ne nq).trans (g7.lst h2), (h3.mono g7).chg (not_tup (e7.dK h5n)), (upd_ne nl).trans h7l, lv.new (.refl _) hn0, l2, lv.new g5 hl⟩ rfl)
    refine B_when (b := false) (Ts.is (s_test (v_op (v_slot rfl) v_con bi_0)) (decide_eq_false (by omega))) (fun hb => nomatch hb) (fun _ H2 e2 => ?_)
    have g2 := e1.trans e2
    have h2n := e2.dK h1n
    obtain ⟨pt, hpt, ht⟩ := h3.get m (List.getElem?_eq_getElem hm)
    refine B_set (v_op (v_nowQ (v_slot rfl) (g2.dK h1)) (v_slot rfl) (bi_ixL (SqL.of (g2.lst h2)) (atI_nat hpt))) fun H3 e3 => ?_
    walk_at "n"
    have g3 := g2.trans e3
    have h3n := e3.dK h2n
    have ecut : cutV xs none (some (m : Int)) = xs.take m := by
      unfold cutV
      rw [HT.sIx_nat, HT.sIx_none]
      simp only [List.drop_zero, Nat.sub_zero]
      rw [Nat.min_eq_left (by omega)]
    have ecut2 : cutV xs (some ((m : Int) + 1)) none = xs.drop (m + 1) := by
      unfold cutV
      rw [show (m : Int) + 1 = ((m + 1 : Nat) : Int) from rfl, HT.sIx_nat, HT.sIx_none]
      rw [Nat.min_eq_left (by omega), List.take_of_length_le]
      rw [List.length_drop]
      omega
    have tk := h3.take m
    have ltk := tk.length
    -- those ahead, passed once more
    refine B_setR (r_cmpT (f := QE.vs) (g := QE.vs) (F := QE.bump) (l := s.queue.take m) (xs := xs.take m) (ecut ▸ l_slice (v_nowQ (v_slot rfl) (g3.dK h1)) p_no (p_int (v_slot rfl)) (SqL.of (g3.lst h2))) (tk.mono g3) (by rw [List.length_take]; have := hn.1; omega) (fun _ => rfl) fun pz z H9 e9 hz => u_tup (g_cons (v_op (v_slot rfl) v_con (bi_ixT (SqT.of hz) rfl)) (g_cons (v_op (v_slot rfl) v_con (bi_ixT (SqT.of hz) rfl)) (g_cons (v_op (v_op (v_slot rfl) v_con (bi_ixT (SqT.of hz) rfl)) v_con bi_0) g_nil))) (show 3 ≤ 100000 by decide)) fun v H4 e4 ⟨la, ya, ev, hla, h4a, t4a⟩ => ?_
    subst ev
    walk_at "n"
    have g4 := g3.trans e4
    have h4n := e4.dK h3n
    have ly := t4a.length
    refine B_dputR (r_cat (R := fun _ _ => True) (v_slot rfl) h4a (l_slice (v_nowQ (v_slot rfl) (g4.dK h1)) (p_int (v_op (v_slot rfl) v_con bi_0)) p_no (SqL.of (g4.lst h2))) (by rw [ecut2, List.length_drop, ly, List.length_map, List.length_take]; have := hn.1; omega)) (v_slot rfl) h4n (show 4 ≤ 1000 by decide) (fun g ⟨l, a, b, c⟩ => ⟨l, a, b, g.lst c⟩) fun v H5 e5 ⟨lq, ev, hlq, h5q⟩ => ?_
    subst ev
    rw [put_q]
    rw [ecut2] at h5q
    have g5 := g4.trans e5
    have h5n := e5.dK h4n
    have nlq : lq ≠ n := fun z => by rw [z, h4n] at hlq; cases hlq
    have t5 : TupsAt H5 QE.vs (ya ++ xs.drop (m + 1)) ((s.queue.take m).map QE.bump ++ s.queue.drop (m + 1)) := (t4a.mono e5).app ((h3.drop (m + 1)).mono g5)
    have g6 := g5.chg hn0 (o := .dK (nowD (.ref lq) (.ref ra) (optV s.alone) (optV s.asked)))
    have t6 := t5.chg (a := n) (o := .dK (nowD (.ref lq) (.ref ra) (optV s.alone) (optV s.asked))) (not_tup h5n)
    have h6q : (upd H5 n (.dK (nowD (.ref lq) (.ref ra) (optV s.alone) (optV s.asked)))) lq = some (.lst (ya ++ xs.drop (m + 1))) := (upd_ne nlq).trans h5q
    have h6n : (upd H5 n (.dK (nowD (.ref lq) (.ref ra) (optV s.alone) (optV s.asked)))) n = _ := upd_same
    generalize upd H5 n (.dK (nowD (.ref lq) (.ref ra) (optV s.alone) (optV s.asked))) = H6 at g6 t6 h6q h6n ⊢
    have em : s.queue[((m : Int)).toNat]? = some s.queue[m] := by rw [Int.toNat_natCast]; exact List.getElem?_eq_getElem hm
    have eb : s.began (m : Int) = if s.queue[m].wish = rd then { s with queue := (s.queue.take m).map QE.bump ++ s.queue.drop (m + 1), reading := s.reading ++ [s.queue[m].who] } else { s with queue := (s.queue.take m).map QE.bump ++ s.queue.drop (m + 1), alone := some s.queue[m].who } := by
      unfold Now.began
      rw [if_neg (by omega), em]
      simp only [Int.toNat_natCast]
    refine B_if (b := decide (s.queue[m].wish = rd)) (Ts.is (s_test (v_op (v_op (v_slot rfl) v_con (bi_ixT (SqT.of (g6.tup ht)) rfl)) v_con (bi_eq rfl))) (se _ _)) (fun hb H7 e7 => ?_) fun hb H7 e7 => ?_
    · have g7 := g6.trans e7
      refine S_dputR (r_cat (R := fun _ _ => True) (v_nowR (v_slot rfl) (g7.dK h1)) (g7.lst h4) (l_lst (g_cons (v_op (v_slot rfl) v_con (bi_ixT (SqT.of (g7.tup ht)) rfl)) g_nil) (show 1 ≤ 100000 by decide)) (by rw [List.length_map]; have := hn.2; show s.reading.length + 1 ≤ 100000; omega)) (v_slot rfl) (e7.dK h6n) (show 4 ≤ 1000 by decide) (fun g ⟨l, a, b, c⟩ => ⟨l, a, b, g.lst c⟩) fun v H8 e8 ⟨lr, ev, hlr, h8r⟩ => ?_
      subst ev
      rw [put_r]
      have nlr : lr ≠ n := fun z => by rw [z, e7.dK h6n] at hlr; cases hlr
      have e78 := e7.trans e8
      exact S_ret (v_slot rfl) (fin ((g6.trans e78).chg hn0) (s' := { s with queue := (s.queue.take m).map QE.bump ++ s.queue.drop (m + 1), reading := s.reading ++ [s.queue[m].who] }) ⟨lq, lr, _, upd_same, (upd_ne nlq).trans (e78.lst h6q), (t6.mono e78).chg (not_tup (e78.dK h6n)), (upd_ne nlr).trans (by rw [h8r, List.map_append]; rfl), lv.new (.refl _) hn0, lv.new g4 hlq, lv.new g7 hlr⟩ (by rw [eb, if_pos (of_decide_eq_true hb)]))
    · have g7 := g6.trans e7
      refine S_dput (v_op (v_slot rfl) v_con (bi_ixT (SqT.of (g7.tup ht)) rfl)) (v_slot rfl) (e7.dK h6n) (show 4 ≤ 1000 by decide) fun H8 e8 => ?_
      rw [put_a]
      have e78 := e7.trans e8
      exact S_ret (v_slot rfl) (fin ((g6.trans e78).chg hn0) (s' := { s with queue := (s.queue.take m).map QE.bump ++ s.queue.drop (m + 1), alone := some s.queue[m].who }) ⟨lq, ra, _, upd_same, (upd_ne nlq).trans (e78.lst h6q), (t6.mono e78).chg (not_tup (e78.dK h6n)), (upd_ne nr).trans ((g6.trans e78).lst h4), lv.new (.refl _) hn0, lv.new g4 hlq, l3⟩ (by rw [eb, if_neg (of_decide_eq_false hb)]))

--CUT
theorem ok_Seats (T : Top K mg) (TB : Tabs T base) : FnOk P w K mg base CX0 2 T.f_Seats T.fd_Seats ["_law_script"] (spBnd K 1 seatsOf) := by
  have GCell := ok_Cell (P := P) (w := w) (base := base) T TB
  have GNum := ok_Num (P := P) (w := w) (base := base) T TB
  refine T.F_Seats.ok scSeats (fun vs H Q E h => ?_) (fun cdv A outer s H vs Q E hr h => ?_)
  · obtain ⟨a, ns, rfl, hS, q⟩ := h
    rfl
  · obtain ⟨a, ns, rfl, hS, q⟩ := h
    refine ⟨_, (pss_cons (ps_set (i := 1) scSeats.nd rfl (Or.inl rfl) (pe_call GCell hr (by rfl) T.g_Cell T.F_Cell.kp T.B_Cell .nil pass0 (pa_cons (pv 0) (pa_cons pe_int pa_nil))))
      (pss_cons (ps_if (PW.pt (pw_and (pt_cmpR op_in_seq (pe_op op_modN (pe_call GCell hr (by rfl) T.g_Cell T.F_Cell.kp T.B_Cell .nil pass0 (pa_cons (pv 0) (pa_cons pe_int pa_nil))) pe_int) (pe_lst (pa_cons pe_int (pa_cons pe_int pa_nil))) (by rfl)) (pw_and1 (pt_cmpR op_eq (pe_op op_modN (pv 1) pe_int) pe_int (nomark _)))))
      (pss_one (ps_ret (pe_op op_add pe_int (pe_op op_modN (pe_op op_fdivN (pv 1) pe_int) pe_int))))
      pss_nil)
      (pss_one (ps_ret (pe_call GNum hr (by rfl) T.g_Num T.F_Num.kp T.B_Num .nil pass0 (pa_cons (pv 1) (pa_cons pe_int pa_nil))))))), ?_⟩
    refine slots (start_Seats _) ?_
    have cl : ∀ {H1 : Hp} {σ : L2.St} {te : TE} {i : Int} {E1 : XK} (k : Nat), i = (k : Int) → Gr H H1 → σ[0]? = some (some (.ref a)) → Vl te σ H1 (.int i) → Vl (tCall (spCell K) [] E1 (tCons (tVar 0) (tCons te tNil))) σ H1 (.int (cellAt ns k)) := fun k e g hs hv => v_call (g_cons (v_slot hs) (g_cons hv g_nil)) (sv_cell k e (g.sl hS))
    refine B_set (cl 0 rfl (.refl _) rfl v_con) fun H1 e1 => ?_
    walk_at "n"
    refine' B_when (s_and (b := decide ((cellAt ns 4).fmod 8 = 1 ∨ (cellAt ns 4).fmod 8 = 3)) (s_test (Vl.is (v_opN (v_op (cl 4 rfl e1 rfl v_con) v_con (bi_C (show (8 : Int) ≠ 0 by decide))) (l_lst (g_cons v_con (g_cons v_con g_nil)) (by decide)) (fun p H2 h2 _ => bi_inL (SqL.of h2) rfl rfl)) ?ein)) (fun _ => Ts.is (c := decide ((cellAt ns 0).fmod 2 = 1)) (s_test (v_op (v_op (v_slot rfl) v_con (bi_C (show (2 : Int) ≠ 0 by decide))) v_con (bi_eq rfl))) ?e2)) ?yb ?nb
    case ein =>
      rw [if_neg Bool.false_ne_true]
      unfold inV
      rw [List.any_cons, List.any_cons, List.any_nil, Bool.or_false]
      show V.bl (((1 : Int) == (cellAt ns 4).fmod 8) || ((3 : Int) == (cellAt ns 4).fmod 8)) = _
      congr 1
      rw [Bool.eq_iff_iff, Bool.or_eq_true, beq_iff_eq, beq_iff_eq, decide_eq_true_eq]
      exact ⟨fun h => h.imp Eq.symm Eq.symm, fun h => h.imp Eq.symm Eq.symm⟩
    case e2 => exact decide_eq_decide.mpr ⟨V.int.inj, congrArg V.int⟩
    all_goals intro hb H2 e2
    · refine S_ret (v_op v_con (v_op (v_op (v_slot rfl) v_con (bi_C ⟨by decide, by decide⟩)) v_con (bi_C (show (80 : Int) ≠ 0 by decide))) bi_0) fun H3 e3 => ?_
      simp only [Bool.and_eq_true, decide_eq_true_eq] at hb
      have e : seatsOf ns = 1 + ((cellAt ns 0).fdiv 2).fmod 80 := if_pos hb
      rw [e] at q
      exact q H3 ((e1.trans e2).trans e3)
    · refine S_ret (v_call (g_cons (v_slot rfl) (g_cons v_con g_nil)) (sv_num (.inr rfl))) fun H3 e3 => ?_
      have e : seatsOf ns = numBy (cellAt ns 0) 1 := if_neg fun h => by
        rw [decide_eq_true h.1, decide_eq_true h.2] at hb
        cases hb
      rw [e] at q
      exact q H3 ((e1.trans e2).trans e3)
theorem ok_Patience (T : Top K mg) (TB : Tabs T base) : FnOk P w K mg base CX0 2 T.f_Patience T.fd_Patience ["_law_script"] (spBnd K 0 patienceOf) := by
  have GCell := ok_Cell (P := P) (w := w) (base := base) T TB
  have GNum := ok_Num (P := P) (w := w) (base := base) T TB
  refine T.F_Patience.ok scPatience (fun vs H Q E h => ?_) (fun cdv A outer s H vs Q E hr h => ?_)
  · obtain ⟨a, ns, rfl, hS, q⟩ := h
    rfl
  · obtain ⟨a, ns, rfl, hS, q⟩ := h
    refine ⟨_, (pss_cons (ps_set (i := 1) scPatience.nd rfl (Or.inl rfl) (pe_call GCell hr (by rfl) T.g_Cell T.F_Cell.kp T.B_Cell .nil pass0 (pa_cons (pv 0) (pa_cons pe_int pa_nil))))
      (pss_cons (ps_if (PW.pt (pw_and (pt_cmpR op_eq (pe_op op_modN (pe_call GCell hr (by rfl) T.g_Cell T.F_Cell.kp T.B_Cell .nil pass0 (pa_cons (pv 0) (pa_cons pe_int pa_nil))) pe_int) pe_int (nomark _)) (pw_and1 (pt_cmpR op_eq (pe_op op_modN (pv 1) pe_int) pe_int (nomark _)))))
      (pss_one (ps_ret (pe_op op_modN (pe_op op_fdivN (pv 1) pe_int) pe_int)))
      pss_nil)
      (pss_one (ps_ret (pe_call GNum hr (by rfl) T.g_Num T.F_Num.kp T.B_Num .nil pass0 (pa_cons (pv 1) (pa_cons pe_int pa_nil))))))), ?_⟩
    refine slots (start_Patience _) ?_
    have cl : ∀ {H1 : Hp} {σ : L2.St} {te : TE} {i : Int} {E1 : XK} (k : Nat), i = (k : Int) → Gr H H1 → σ[0]? = some (some (.ref a)) → Vl te σ H1 (.int i) → Vl (tCall (spCell K) [] E1 (tCons (tVar 0) (tCons te tNil))) σ H1 (.int (cellAt ns k)) := fun k e g hs hv => v_call (g_cons (v_slot hs) (g_cons hv g_nil)) (sv_cell k e (g.sl hS))
    refine B_set (cl 1 rfl (.refl _) rfl v_con) fun H1 e1 => ?_
    walk_at "n"
    refine' B_when (s_and (b := decide ((cellAt ns 4).fmod 8 = 2)) (Ts.is (s_test (v_op (v_op (cl 4 rfl e1 rfl v_con) v_con (bi_C (show (8 : Int) ≠ 0 by decide))) v_con (bi_eq rfl))) ?e1) (fun _ => Ts.is (c := decide ((cellAt ns 1).fmod 2 = 1)) (s_test (v_op (v_op (v_slot rfl) v_con (bi_C (show (2 : Int) ≠ 0 by decide))) v_con (bi_eq rfl))) ?e2)) ?yb ?nb
    case e1 => exact decide_eq_decide.mpr ⟨V.int.inj, congrArg V.int⟩
    case e2 => exact decide_eq_decide.mpr ⟨V.int.inj, congrArg V.int⟩
    all_goals intro hb H2 e2
    · refine S_ret (v_op (v_op (v_slot rfl) v_con (bi_C ⟨by decide, by decide⟩)) v_con (bi_C (show (120 : Int) ≠ 0 by decide))) fun H3 e3 => ?_
      simp only [Bool.and_eq_true, decide_eq_true_eq] at hb
      have e : patienceOf ns = ((cellAt ns 1).fdiv 2).fmod 120 := if_pos hb
      rw [e] at q
      exact q H3 ((e1.trans e2).trans e3)
    · refine S_ret (v_call (g_cons (v_slot rfl) (g_cons v_con g_nil)) (sv_num (.inl rfl))) fun H3 e3 => ?_
      have e : patienceOf ns = numBy (cellAt ns 1) 0 := if_neg fun h => by
        rw [decide_eq_true h.1, decide_eq_true h.2] at hb
        cases hb
      rw [e] at q
      exact q H3 ((e1.trans e2).trans e3)
theorem ok_Whole (T : Top K mg) (TB : Tabs T base) : FnOk P w K mg base CX0 1 T.f_Whole T.fd_Whole ["_law_found"] (spWhole) := by
  refine T.F_Whole.ok scWhole (fun vs H Q E h => ?_) (fun cdv A outer s H vs Q E hr h => ?_)
  · obtain ⟨i, rfl, q⟩ := h
    rfl
  · obtain ⟨i, rfl, q⟩ := h
    refine ⟨_, (pss_one (ps_ret (pe_and (pe_callB call_isi (by rfl) T.m_isinstance (by decide +kernel) (pa_cons (pv 0) (pa_cons (pe_bltn (v := .ty "int") (by rfl) T.m_int (by decide +kernel) rfl) pa_nil))) (pe_one (pe_not (pe_callB call_isi (by rfl) T.m_isinstance (by decide +kernel) (pa_cons (pv 0) (pa_cons (pe_bltn (v := .ty "bool") (by rfl) T.m_bool (by decide +kernel) rfl) pa_nil)))))))), ?_⟩
    refine slots (start_Whole _) ?_
    exact S_ret (Vl.is (v_and (v_isiI (v_slot rfl)) (fun _ => v_not (v_isbI (v_slot rfl)))) rfl) fun H1 e1 => q H1 e1
-- no Texts here
-- no Pairs here
theorem ok_DeedBy (T : Top K mg) (TB : Tabs T base) : FnOk P w K mg base CX0 2 T.f_DeedBy T.fd_DeedBy ["_law_cell", "_law_people_here", "_law_inside_here", "_law_waits"] (spDeedBy K) := by
  have GWish := ok_Wish (P := P) (w := w) (base := base) T TB
  refine T.F_DeedBy.ok scDeedBy (fun vs H Q E h => ?_) (fun cdv A outer s H vs Q E hr h => ?_)
  · obtain ⟨c, pp, pi, pw, ps, is_, ws, rfl, hp, hi, hw, lp1, lp2, li, lw, np, ni, q⟩ := h
    rfl
  · obtain ⟨c, pp, pi, pw, ps, is_, ws, rfl, hp, hi, hw, lp1, lp2, li, lw, np, ni, q⟩ := h
    refine ⟨_, (pss_cons (ps_set (i := 4) scDeedBy.nd rfl (Or.inl rfl) (pe_ix ix_list (pv 1) (pe_op op_modN (pe_op op_fdivN (pv 0) pe_int) (pe_callB call_len_seq (by rfl) T.m_len PySem.boot_len (pa_cons (pv 1) pa_nil))) (fun _ _ => rfl)))
      (pss_cons (ps_set (i := 5) scDeedBy.nd rfl (Or.inl rfl) (pe_op op_modN (pv 0) pe_int))
      (pss_cons (ps_set (i := 6) scDeedBy.nd rfl (Or.inl rfl) (pe_call GWish hr (by rfl) T.g_Wish T.F_Wish.kp T.B_Wish .nil pass0 (pa_cons (pe_op op_fdivN (pv 0) (pe_op op_mul pe_int (pe_callB call_len_seq (by rfl) T.m_len PySem.boot_len (pa_cons (pv 1) pa_nil)))) pa_nil)))
      (pss_cons (ps_if (pt_cmpR op_in_seq (pv 4) (pv 2) (by rfl))
      (pss_one (ps_ret (pe_tup (pa_cons (pe_ix ix_list (pe_lst (pa_cons pe_str (pa_cons pe_str (pa_cons pe_str (pa_cons pe_str (pa_cons pe_str (pa_cons pe_str (pa_cons pe_str (pa_cons pe_str pa_nil))))))))) (pv 5) (fun _ _ => rfl)) (pa_cons (pv 4) (pa_cons (pv 6) pa_nil))))))
      pss_nil)
      (pss_cons (ps_if (pt_cmpR op_notIn_seq (pv 4) (pv 3) (by rfl))
      (pss_one (ps_ret (pe_tup (pa_cons (pe_ix ix_list (pe_lst (pa_cons pe_str (pa_cons pe_str (pa_cons pe_str (pa_cons pe_str (pa_cons pe_str (pa_cons pe_str (pa_cons pe_str (pa_cons pe_str pa_nil))))))))) (pv 5) (fun _ _ => rfl)) (pa_cons (pv 4) (pa_cons (pv 6) pa_nil))))))
      pss_nil)
      (pss_cons (ps_if (PW.pt (pw_and (pt_cmpR op_lt (pv 5) pe_int (nomark _)) (pw_and1 (pt_cmpR (op_neD hr.units) (pv 2) (pe_lst pa_nil) (nomark _)))))
      (pss_one (ps_ret (pe_tup (pa_cons pe_str (pa_cons (pe_ix ix_list (pv 2) (pe_op op_modN (pe_op op_fdivN (pv 0) pe_int) (pe_callB call_len_seq (by rfl) T.m_len PySem.boot_len (pa_cons (pv 2) pa_nil))) (fun _ _ => rfl)) (pa_cons (pv 6) pa_nil))))))
      pss_nil)
      (pss_one (ps_ret (pe_tup (pa_cons (pe_ix ix_list (pe_lst (pa_cons pe_str (pa_cons pe_str (pa_cons pe_str (pa_cons pe_str (pa_cons pe_str (pa_cons pe_str (pa_cons pe_str (pa_cons pe_str pa_nil))))))))) (pv 5) (fun _ _ => rfl)) (pa_cons (pv 4) (pa_cons (pv 6) pa_nil)))))))))))), ?_⟩
    refine slots (start_DeedBy _ _ _ _) ?_
    have lps : (ps.map V.str).length = ps.length := List.length_map _
    have lis : (is_.map V.str).length = is_.length := List.length_map _
    have pick : ∀ {xs : List Str} {c2 : Int}, 0 < xs.length → ∃ w, atI (xs.map V.str) (c2.fmod xs.length) = some (V.str w) ∧ w ∈ xs := fun {xs c2} h => by
      have b := fmod_in c2 (m := (xs.length : Int)) (by omega)
      have hi : (c2.fmod xs.length).toNat < xs.length := by omega
      refine ⟨xs[(c2.fmod xs.length).toNat], ?_, List.getElem_mem hi⟩
      have := atI_nat (xs := xs.map V.str) (j := (c2.fmod xs.length).toNat) (v := V.str xs[(c2.fmod xs.length).toNat]) (by rw [List.getElem?_map, List.getElem?_eq_getElem hi]; rfl)
      rw [Int.toNat_of_nonneg b.1] at this
      exact this
    have b8 := fmod_in c (m := 8) (by decide)
    have word : ∀ w0 w1 w2 w3 w4 w5 w6 w7 : Str, (∀ w ∈ [w0, w1, w2, w3, w4, w5, w6, w7], w = wCame ∨ w = wLeft ∨ w = wAsked ∨ w = wEased) → ∃ w, atI [V.str w0, V.str w1, V.str w2, V.str w3, V.str w4, V.str w5, V.str w6, V.str w7] (c.fmod 8) = some (V.str w) ∧ (w = wCame ∨ w = wLeft ∨ w = wAsked ∨ w = wEased) := fun w0 w1 w2 w3 w4 w5 w6 w7 h => by
      rcases (by omega : c.fmod 8 = 0 ∨ c.fmod 8 = 1 ∨ c.fmod 8 = 2 ∨ c.fmod 8 = 3 ∨ c.fmod 8 = 4 ∨ c.fmod 8 = 5 ∨ c.fmod 8 = 6 ∨ c.fmod 8 = 7) with z | z | z | z | z | z | z | z <;> rw [z] <;> exact ⟨_, rfl, h _ (by simp)⟩
    obtain ⟨who, ewho, mwho⟩ := pick (xs := ps) (c2 := c.fdiv 8) (by omega)
    refine B_set (v_op (v_slot rfl) (v_op (v_op (v_slot rfl) v_con (bi_C ⟨by decide, by decide⟩)) (v_len (v_slot rfl) hp) (bi_C (by rw [lps]; omega))) (bi_ixL hp (by rw [lps]; exact ewho))) fun H1 e1 => ?_
    walk_at "n"
    refine B_set (v_op (v_slot rfl) v_con (bi_C (show (8 : Int) ≠ 0 by decide))) fun H2 e2 => ?_
    walk_at "n"
    have g2 := e1.trans e2
    refine B_set (v_call (g_cons (v_op (v_slot rfl) (v_op v_con (v_len (v_slot rfl) (g2.sl hp)) (bi_C (.inl ⟨by decide, by decide⟩))) (bi_C ⟨by rw [lps]; omega, by rw [lps]; omega⟩)) g_nil) sv_wish) fun H3 e3 => ?_
    walk_at "n"
    have g3 := g2.trans e3
    have wok := wishOf_ok (c.fdiv (8 * ((ps.map V.str).length : Int)))
    generalize wishOf (c.fdiv (8 * ((ps.map V.str).length : Int))) = ww at wok ⊢
    have fin : ∀ {H9 : Hp} {w z : Str}, Gr H H9 → (w = wCame ∨ w = wLeft ∨ w = wAsked ∨ w = wEased) → nameB z = true → ∀ v H10, Gr H9 H10 → (∃ p, v = .ref p ∧ H9 p = none ∧ H10 p = some (.tup [.str w, .str z, .str ww])) → Q v H10 := fun g9 hw' hz v H10 e10 ⟨p, ev, _, h10⟩ => q v H10 (g9.trans e10) ⟨p, ⟨_, _, ww⟩, ev, h10, hw', hz, wok⟩
    refine B_when (Ts.is (s_test (v_op (v_slot rfl) (v_slot rfl) (bi_inL (g3.sl hi) rfl (flat_strs _)))) rfl) (fun hb H4 e4 => ?_) fun hb H4 e4 => ?_
    · obtain ⟨w, ew, ow⟩ := word "left" "left" "left" "left" "asked" "asked" "eased" "came" (by decide +kernel)
      exact S_retR (u_tup (g_cons (v_opL (l_lst (g_cons v_con (g_cons v_con (g_cons v_con (g_cons v_con (g_cons v_con (g_cons v_con (g_cons v_con (g_cons v_con g_nil)))))))) (by decide)) (fun _ _ => v_slot rfl) (fun p9 H9 h9 _ => bi_ixL (SqL.of h9) ew)) (g_cons (v_slot rfl) (g_cons (v_slot rfl) g_nil))) (show 3 ≤ 100000 by decide)).toN fun v H5 e5 h5 => fin (g3.trans e4) ow (np _ mwho) v H5 e5 h5
    have g4 := g3.trans e4
    refine B_when (Ts.is (s_test (v_op (v_slot rfl) (v_slot rfl) (bi_inL (neg := true) (g4.sl hw) rfl (flat_strs _)))) rfl) (fun hb2 H5 e5 => ?_) fun hb2 H5 e5 => ?_
    · obtain ⟨w, ew, ow⟩ := word "came" "came" "came" "came" "came" "left" "asked" "eased" (by decide +kernel)
      exact S_retR (u_tup (g_cons (v_opL (l_lst (g_cons v_con (g_cons v_con (g_cons v_con (g_cons v_con (g_cons v_con (g_cons v_con (g_cons v_con (g_cons v_con g_nil)))))))) (by decide)) (fun _ _ => v_slot rfl) (fun p9 H9 h9 _ => bi_ixL (SqL.of h9) ew)) (g_cons (v_slot rfl) (g_cons (v_slot rfl) g_nil))) (show 3 ≤ 100000 by decide)).toN fun v H6 e6 h6 => fin (g4.trans e5) ow (np _ mwho) v H6 e6 h6
    have g5 := g4.trans e5
    have shi : SeqAt.shaped (.list (is_.map PyData.str)) = true := shaped_strs _ fun x hx => (nameB_is (ni x hx)).2.2.asc
    refine B_when (b := decide (c.fmod 8 < 4) && !decide (is_ = [])) (s_and (s_test (v_op (v_slot rfl) v_con bi_0)) (fun _ => Ts.is (s_test (v_opN (v_slot rfl) (l_lst g_nil (show 0 ≤ 100000 by decide)) fun pc H6 h6c g6c => bi_neD (d := .list (is_.map PyData.str)) (e := .list (([] : List Str).map PyData.str)) (.lst ((g5.trans g6c).sl hi) (dps_str _)) (.lst (SqL.of h6c) .nil) shi (by decide +kernel))) (by rw [eqv_strL]))) (fun hb3 H6 e6 => ?_) fun hb3 H6 e6 => ?_
    · have g6 := g5.trans e6
      have ne : is_ ≠ [] := by
        intro z
        rw [z] at hb3
        simp at hb3
      obtain ⟨w2, ew2, mw2⟩ := pick (xs := is_) (c2 := c.fdiv 8) (List.length_pos_iff.mpr ne)
      have lpos := List.length_pos_iff.mpr ne
      exact S_retR (u_tup (g_cons v_con (g_cons (v_op (v_slot rfl) (v_op (v_op (v_slot rfl) v_con (bi_C ⟨by decide, by decide⟩)) (v_len (v_slot rfl) (g6.sl hi)) (bi_C (by rw [lis]; omega))) (bi_ixL (g6.sl hi) (by rw [lis]; exact ew2))) (g_cons (v_slot rfl) g_nil))) (show 3 ≤ 100000 by decide)).toN fun v H7 e7 h7 => fin g6 (.inr (.inl rfl)) (ni _ mw2) v H7 e7 h7
    · obtain ⟨w, ew, ow⟩ := word "left" "left" "left" "left" "left" "came" "asked" "eased" (by decide +kernel)
      exact S_retR (u_tup (g_cons (v_opL (l_lst (g_cons v_con (g_cons v_con (g_cons v_con (g_cons v_con (g_cons v_con (g_cons v_con (g_cons v_con (g_cons v_con g_nil)))))))) (by decide)) (fun _ _ => v_slot rfl) (fun p9 H9 h9 _ => bi_ixL (SqL.of h9) ew)) (g_cons (v_slot rfl) (g_cons (v_slot rfl) g_nil))) (show 3 ≤ 100000 by decide)).toN fun v H7 e7 h7 => fin (g5.trans e6) ow (np _ mwho) v H7 e7 h7
theorem ok_Names (T : Top K mg) (TB : Tabs T base) : FnOk P w K mg base CX0 2 T.f_Names T.fd_Names ["_law_script", "_law_many"] (spNames K) := by
  have GCell := ok_Cell (P := P) (w := w) (base := base) T TB
  have GPeople := ok_People (P := P) (w := w) (base := base) T TB
  refine T.F_Names.ok scNames (fun vs H Q E h => ?_) (fun cdv A outer s H vs Q E hr h => ?_)
  · obtain ⟨a, ns, n, rfl, hS, hn1, hn2, q⟩ := h
    rfl
  · obtain ⟨a, ns, n, rfl, hS, hn1, hn2, q⟩ := h
    refine ⟨_, (pss_cons (ps_set (i := 2) scNames.nd rfl (Or.inl rfl) (pe_op op_modN (pe_call GCell hr (by rfl) T.g_Cell T.F_Cell.kp T.B_Cell .nil pass0 (pa_cons (pv 0) (pa_cons pe_int pa_nil))) pe_int))
      (pss_cons (ps_set (i := 3) scNames.nd rfl (Or.inl rfl) (pe_call GPeople hr (by rfl) T.g_People T.F_People.kp T.B_People .nil pass0 (pa_cons (pe_call GCell hr (by rfl) T.g_Cell T.F_Cell.kp T.B_Cell .nil pass0 (pa_cons (pv 0) (pa_cons pe_int pa_nil))) (pa_cons pe_int pa_nil))))
      (pss_cons (ps_if (PW.pt (pw_or (pt_cmpR op_eq (pv 2) pe_int (nomark _)) (pw_or1 (pt_cmpR op_eq (pv 2) pe_int (nomark _)))))
      (pss_one (ps_ret (pe_slice sl_list (pv 3) po_none (po_some (pe_op op_add (pe_op op_add (pv 1) pe_int) (pe_op op_mul (pe_op op_mul pe_int (pv 1)) (pe_callTy call_int1 (by rfl) T.m_int (by decide +kernel) (pa_cons (pe_cmpR op_eq (pv 2) pe_int (nomark _)) pa_nil))))))))
      pss_nil)
      (pss_cons (ps_if (pt_cmpR op_eq (pv 2) pe_int (nomark _))
      (pss_one (ps_ret (pe_slice sl_list (pv 3) (po_some (pe_op op_sub pe_int (pv 1))) po_none)))
      pss_nil)
      (pss_one (ps_ret (pe_call GPeople hr (by rfl) T.g_People T.F_People.kp T.B_People .nil pass0 (pa_cons (pe_call GCell hr (by rfl) T.g_Cell T.F_Cell.kp T.B_Cell .nil pass0 (pa_cons (pv 0) (pa_cons pe_int pa_nil))) (pa_cons (pv 1) pa_nil))))))))), ?_⟩
    refine slots (start_Names _ _) ?_
    have cl : ∀ {H1 : Hp} {σ : L2.St} {te : TE} {i : Int} {E1 : XK} (k : Nat), i = (k : Int) → Gr H H1 → σ[0]? = some (some (.ref a)) → Vl te σ H1 (.int i) → Vl (tCall (spCell K) [] E1 (tCons (tVar 0) (tCons te tNil))) σ H1 (.int (cellAt ns k)) := fun k e g hs hv => v_call (g_cons (v_slot hs) (g_cons hv g_nil)) (sv_cell k e (g.sl hS))
    have ie : ∀ x y : Int, decide (V.int x = V.int y) = decide (x = y) := fun x y => decide_eq_decide.mpr ⟨V.int.inj, congrArg V.int⟩
    refine B_set (v_op (cl 4 rfl (.refl _) rfl v_con) v_con (bi_C (show (8 : Int) ≠ 0 by decide))) fun H1 e1 => ?_
    walk_at "n"
    generalize (cellAt ns 4).fmod 8 = way
    refine B_setR (r_call (g_cons (cl 3 rfl e1 rfl v_con) (g_cons v_con g_nil)) (sr_people 80 rfl (by decide))) fun v H2 e2 hv => ?_
    walk_at "n"
    obtain ⟨pp, ss, rfl, hpp, lss, hss⟩ := hv
    have g2 := e1.trans e2
    have lss' : (ss.map V.str).length = 80 := by rw [List.length_map, lss]
    -- some of them: what is cut is none too few
    have fin : ∀ {H9 : Hp} {lo hi : Option Int}, Gr H H9 → (∃ i k : Nat, cutV (ss.map V.str) lo hi = ((ss.drop i).take k).map V.str ∧ 1 ≤ ((ss.drop i).take k).length) → ∀ v H10, Gr H9 H10 → (∃ p, v = .ref p ∧ H9 p = none ∧ H10 p = some (.lst (cutV (ss.map V.str) lo hi))) → Q v H10 := fun g9 ⟨i, k, ec, l1⟩ v H10 e10 ⟨p, ev, _, h10⟩ => q v H10 (g9.trans e10) ⟨p, (ss.drop i).take k, ev, by rw [h10, ec], l1, by rw [List.length_take, List.length_drop]; omega, fun s hs => hss s (List.mem_of_mem_drop (List.mem_of_mem_take hs))⟩
    have b01 : ∀ b : Bool, ∃ j : Nat, (if b = true then (1 : Int) else 0) = (j : Int) ∧ j ≤ 1 := fun b => by
      cases b
      · exact ⟨0, rfl, by decide⟩
      · exact ⟨1, rfl, by decide⟩
    refine B_when (s_or (s_test (v_op (v_slot rfl) v_con (bi_eq rfl))) (fun _ => s_test (v_op (v_slot rfl) v_con (bi_eq rfl)))) (fun hb H3 e3 => ?_) fun hb H3 e3 => ?_
    · have g3 := g2.trans e3
      refine S_retR (Ls.toN (l_slice (v_slot rfl) p_no (p_int (v_op (v_op (v_slot rfl) v_con bi_0) (v_op (v_op v_con (v_slot rfl) (bi_C (.inl ⟨by decide, by decide⟩))) (v_intB (v_op (v_slot rfl) v_con (bi_eq rfl))) (bi_C (.inl ⟨by omega, by omega⟩))) bi_0)) (SqL.of (e3.lst hpp)))) fun v H4 e4 h4 => fin g3 ?_ v H4 e4 h4
      obtain ⟨j, ej, j1⟩ := b01 (decide (V.int way = V.int 1))
      rw [ej]
      refine ⟨0, n + 3 + 5 * n * j, ?_, by rw [List.drop_zero, List.length_take]; omega⟩
      unfold cutV
      rw [show (n : Int) + 3 + 5 * (n : Int) * (j : Int) = ((n + 3 + 5 * n * j : Nat) : Int) by push_cast; rfl, HT.sIx_nat, HT.sIx_none, lss', List.drop_zero, List.drop_zero, Nat.sub_zero, List.map_take]
      by_cases h80 : n + 3 + 5 * n * j ≤ 80
      · rw [Nat.min_eq_left h80]
      · rw [Nat.min_eq_right (by omega), List.take_of_length_le (by rw [lss']; exact Nat.le_refl _), List.take_of_length_le (by rw [lss']; omega)]
    have g3 := g2.trans e3
    refine B_when (s_test (v_op (v_slot rfl) v_con (bi_eq rfl))) (fun hb2 H4 e4 => ?_) fun hb2 H4 e4 => ?_
    · have g4 := g3.trans e4
      refine S_retR (Ls.toN (l_slice (v_slot rfl) (p_int (v_op v_con (v_slot rfl) bi_0)) p_no (SqL.of ((e3.trans e4).lst hpp)))) fun v H5 e5 h5 => fin g4 ?_ v H5 e5 h5
      refine ⟨70 - n, 80, ?_, by rw [List.length_take, List.length_drop]; omega⟩
      unfold cutV
      rw [show (70 : Int) - (n : Int) = ((70 - n : Nat) : Int) by omega, HT.sIx_nat, HT.sIx_none, lss', Nat.min_eq_left (by omega), List.map_take, List.map_drop, List.take_of_length_le (by rw [List.length_drop, lss']; omega), List.take_of_length_le (by rw [List.length_drop, lss']; omega)]
    · have g4 := g3.trans e4
      refine S_retR (r_call (g_cons (cl 3 rfl g4 rfl v_con) (g_cons (v_slot rfl) g_nil)) (sr_people n rfl (by omega))) fun v H5 e5 ⟨p5, s5, ev, h5, l5, n5⟩ => q v H5 (g4.trans e5) ⟨p5, s5, ev, h5, by omega, by omega, n5⟩
theorem ok_Crowd (T : Top K mg) (TB : Tabs T base) : FnOk P w K mg base CX0 2 T.f_Crowd T.fd_Crowd ["_law_script", "_law_many"] (spCrowd K) := by
  have GPeople := ok_People (P := P) (w := w) (base := base) T TB
  have GCell := ok_Cell (P := P) (w := w) (base := base) T TB
  have GWish := ok_Wish (P := P) (w := w) (base := base) T TB
  refine T.F_Crowd.ok scCrowd (fun vs H Q E h => ?_) (fun cdv A outer s H vs Q E hr h => ?_)
  · obtain ⟨a, ns, n, rfl, hS, hn1, hn2, q⟩ := h
    rfl
  · obtain ⟨a, ns, n, rfl, hS, hn1, hn2, q⟩ := h
    refine ⟨_, (pss_cons (ps_set (i := 2) scCrowd.nd rfl (Or.inr rfl) (pe_call GPeople hr (by rfl) T.g_People T.F_People.kp T.B_People .nil pass0 (pa_cons (pe_call GCell hr (by rfl) T.g_Cell T.F_Cell.kp T.B_Cell .nil pass0 (pa_cons (pv 0) (pa_cons pe_int pa_nil))) (pa_cons pe_int pa_nil))))
      (pss_cons (ps_set (i := 3) scCrowd.nd rfl (Or.inl rfl) (pe_op op_modN (pe_call GCell hr (by rfl) T.g_Cell T.F_Cell.kp T.B_Cell .nil pass0 (pa_cons (pv 0) (pa_cons pe_int pa_nil))) pe_int))
      (pss_cons (ps_set (i := 4) scCrowd.nd rfl (Or.inl rfl) (pe_cmpR op_eq (pe_op op_modN (pe_op op_fdivN (pe_call GCell hr (by rfl) T.g_Cell T.F_Cell.kp T.B_Cell .nil pass0 (pa_cons (pv 0) (pa_cons pe_int pa_nil))) pe_int) pe_int) pe_int (nomark _)))
      (pss_cons (ps_if (pt_cmpR op_eq (pv 3) pe_int (nomark _))
      (pss_cons (ps_set (i := 5) scCrowd.nd rfl (Or.inl rfl) (pe_op op_mul (pe_op op_add pe_int (pe_op op_mul pe_int (pe_callTy call_int1 (by rfl) T.m_int (by decide +kernel) (pa_cons (pv 4) pa_nil)))) (pv 1)))
      (pss_one (ps_ret (pe_lc (own := [("_law_k", 7)]) rfl scCrowd.nd (pi_range1 (by rfl) T.m_range (pa_cons (pv 5) pa_nil)) (blkOk_by (own := [("_law_k", 7)]) (N := nmCrowd) (sc := defScope sCrowd) (by decide +kernel)) (fun _ _ _ _ _ => (pg_name (i := 7) scCrowd.nd rfl (Or.inl rfl))) (fun _ _ _ _ _ => pts_nil) (fun _ _ _ _ _ => (pe_tup (pa_cons pe_str (pa_cons (pe_ix (r := rIxL K) ix_list (pv 2) (pv 7) (fun _ _ => rfl)) (pa_cons (pe_call GWish hr (by rfl) T.g_Wish T.F_Wish.kp T.B_Wish .nil pass0 (pa_cons (pe_op op_fdivN (pe_call GCell hr (by rfl) T.g_Cell T.F_Cell.kp T.B_Cell .nil pass0 (pa_cons (pv 0) (pa_cons pe_int pa_nil))) (pe_op op_add (pv 7) pe_int)) pa_nil)) pa_nil)))))))))
      pss_nil)
      (pss_cons (ps_if (PW.pt (pw_and (pt_cmpR op_eq (pv 3) pe_int (nomark _)) (pw_and1 (pt_val (pv 4)))))
      (pss_one (ps_ret (pe_lc (own := [("_law_one", 8)]) rfl scCrowd.nd (pi_list (pv 2)) (blkOk_by (own := [("_law_one", 8)]) (N := nmCrowd) (sc := defScope sCrowd) (by decide +kernel)) (fun _ _ _ _ _ => (pg_name (i := 8) scCrowd.nd rfl (Or.inl rfl))) (fun _ _ _ _ _ => pts_nil) (fun _ _ _ _ _ => (pe_tup (pa_cons pe_str (pa_cons (pv 8) (pa_cons pe_str pa_nil))))))))
      pss_nil)
      (pss_cons (ps_set (i := 6) scCrowd.nd rfl (Or.inl rfl) (pe_lst pa_nil))
      (pss_cons (ps_if (pt_cmpR op_eq (pv 3) pe_int (nomark _))
      (pss_cons (ps_set (i := 6) scCrowd.nd rfl (Or.inl rfl) (pe_lst (pa_cons (pe_tup (pa_cons pe_str (pa_cons (pe_ix ix_list (pv 2) pe_int (fun _ _ => rfl)) (pa_cons pe_str pa_nil)))) (pa_cons (pe_tup (pa_cons pe_str (pa_cons (pe_ix ix_list (pv 2) pe_int (fun _ _ => rfl)) (pa_cons pe_str pa_nil)))) pa_nil))))
      (pss_one (ps_for PassesOwn.never rfl (pi_range1 (by rfl) T.m_range (pa_cons (pe_op op_modN (pe_call GCell hr (by rfl) T.g_Cell T.F_Cell.kp T.B_Cell .nil pass0 (pa_cons (pv 0) (pa_cons pe_int pa_nil))) (pe_op op_add pe_int (pe_op op_mul pe_int (pe_callTy call_int1 (by rfl) T.m_int (by decide +kernel) (pa_cons (pv 4) pa_nil))))) pa_nil)) (pg_name (i := 7) scCrowd.nd rfl (Or.inl rfl))
      (pss_cons (ps_expr (pe_bm PySem.F.plainAttrs_list PySem.F.slot_list_append PySem.F.type_list_append mt_append (pv 6) (pa_cons (pe_tup (pa_cons pe_str (pa_cons (pe_ix ix_list (pv 2) (pe_op op_add pe_int (pe_op op_modN (pv 7) pe_int)) (fun _ _ => rfl)) (pa_cons pe_str pa_nil)))) pa_nil)))
      (pss_one (ps_expr (pe_bm PySem.F.plainAttrs_list PySem.F.slot_list_append PySem.F.type_list_append mt_append (pv 6) (pa_cons (pe_tup (pa_cons pe_str (pa_cons (pe_ix ix_list (pv 2) (pe_op op_add pe_int (pe_op op_modN (pv 7) pe_int)) (fun _ _ => rfl)) (pa_cons pe_str pa_nil)))) pa_nil))))))))
      pss_nil)
      (pss_one (ps_ret (pv 6)))))))))), ?_⟩
    refine slots (start_Crowd _ _) ?_
    have cl : ∀ {H1 : Hp} {σ : L2.St} {te : TE} {i : Int} {E1 : XK} (k : Nat), i = (k : Int) → Gr H H1 → σ[0]? = some (some (.ref a)) → Vl te σ H1 (.int i) → Vl (tCall (spCell K) [] E1 (tCons (tVar 0) (tCons te tNil))) σ H1 (.int (cellAt ns k)) := fun k e g hs hv => v_call (g_cons (v_slot hs) (g_cons hv g_nil)) (sv_cell k e (g.sl hS))
    have ie : ∀ x y : Int, decide (V.int x = V.int y) = decide (x = y) := fun x y => decide_eq_decide.mpr ⟨V.int.inj, congrArg V.int⟩
    refine B_setR (r_call (g_cons (cl 3 rfl (.refl _) rfl v_con) (g_cons v_con g_nil)) (sr_people 80 rfl (by decide))) fun v H1 e1 hv => ?_
    walk_at "n"
    obtain ⟨pp, ss, rfl, hpp, lss, hss⟩ := hv
    have lss' : (ss.map V.str).length = 80 := by rw [List.length_map, lss]
    refine B_set (v_op (cl 4 rfl e1 rfl v_con) v_con (bi_C (show (8 : Int) ≠ 0 by decide))) fun H2 e2 => ?_
    walk_at "n"
    have g2 := e1.trans e2
    generalize (cellAt ns 4).fmod 8 = way
    refine B_set (v_op (v_op (v_op (cl 4 rfl g2 rfl v_con) v_con (bi_C ⟨by decide, by decide⟩)) v_con (bi_C (show (3 : Int) ≠ 0 by decide))) v_con (bi_eq rfl)) fun H3 e3 => ?_
    walk_at "n"
    have g3 := g2.trans e3
    have hpp3 := (e2.trans e3).lst hpp
    generalize decide (V.int (((cellAt ns 4).fdiv 8).fmod 3) = V.int 1) = large
    have b01 : ∃ j : Nat, (if large = true then (1 : Int) else 0) = (j : Int) ∧ j ≤ 1 := by
      cases large
      · exact ⟨0, rfl, by decide⟩
      · exact ⟨1, rfl, by decide⟩
    have nm : ∀ i : Nat, i < 80 → nameB (ss.getD i "") = true ∧ atI (ss.map V.str) (i : Int) = some (V.str (ss.getD i "")) := fun i hi => by
      have h : ss[i]? = some (ss.getD i "") := by rw [List.getD_eq_getElem?_getD, List.getElem?_eq_getElem (show i < ss.length by omega)]; rfl
      exact ⟨hss _ (List.mem_of_getElem? h), atI_nat (by rw [List.getElem?_map, h]; rfl)⟩
    refine B_when (s_test (v_op (v_slot rfl) v_con (bi_eq rfl))) (fun hb H4 e4 => ?_) fun hb H4 e4 => ?_
    · have g4 := g3.trans e4
      obtain ⟨j, ej, j1⟩ := b01
      refine B_set (v_op (v_op v_con (v_op v_con (v_intB (v_slot rfl)) (bi_C (.inl ⟨by decide, by decide⟩))) bi_0) (v_slot rfl) (bi_C (.inl ⟨by rw [ej]; omega, by rw [ej]; omega⟩))) fun H5 e5 => ?_
      walk_at "n"
      rw [ej]
      have sz : ((2 + 3 * (j : Int)) * (n : Int)) = (((2 + 3 * j) * n : Nat) : Int) := by push_cast; rfl
      have sz2 : (2 + 3 * j) * n ≤ 60 := Nat.le_trans (Nat.mul_le_mul (show 2 + 3 * j ≤ 5 by omega) hn2) (by decide)
      rw [sz]
      have g5 := g4.trans e5
      have hpp5 := (e4.trans e5).lst hpp3
      refine S_retR (r_cmpI (g := Deed.vs) (fun m => ⟨wCame, ss.getD m "", wishOf ((cellAt ns 5).fdiv ((m : Int) + 1))⟩) (g_cons (v_slot rfl) g_nil) (by omega) (fun _ => rfl) fun m H6 e6 hm => u_tup (g_cons v_con (g_cons (v_op (v_slot rfl) (v_slot rfl) (bi_ixL (SqL.of (e6.lst hpp5)) (nm m (by omega)).2)) (g_cons (v_call (g_cons (v_op (cl 5 rfl (g5.trans e6) rfl v_con) (v_op (v_slot rfl) v_con bi_0) (bi_C ⟨by omega, by omega⟩)) g_nil) sv_wish) g_nil))) (show 3 ≤ 100000 by decide)) fun v H6 e6 ⟨la, ya, ev, nla, hla, hta⟩ => q v H6 (g5.trans e6) ⟨la, ya, _, ev, g5.free nla, hla, hta, by rw [List.length_map, List.length_range]; omega, fun d hd => ?_⟩
      obtain ⟨m, hm, rfl⟩ := List.mem_map.mp hd
      have := List.mem_range.mp hm
      exact ⟨.inl rfl, (nm m (by omega)).1, wishOf_ok _⟩
    have g4 := g3.trans e4
    have hpp4 := e4.lst hpp3
    refine B_when (s_and (s_test (v_op (v_slot rfl) v_con (bi_eq rfl))) (fun _ => s_test (v_slot rfl))) (fun hb2 H5 e5 => ?_) fun hb2 H5 e5 => ?_
    · have g5 := g4.trans e5
      refine S_retR (r_cmpX (g := Deed.vs) (fun m => ⟨wCame, ss.getD m "", rd⟩) (v_slot rfl) (SqL.of (e5.lst hpp4)) (by omega) (fun _ => rfl) fun m x H6 e6 hx => ?_) fun v H6 e6 ⟨la, ya, ev, nla, hla, hta⟩ => q v H6 (g5.trans e6) ⟨la, ya, _, ev, g5.free nla, hla, hta, by rw [List.length_map, List.length_range]; omega, fun d hd => ?_⟩
      · have hm : m < 80 := by
          have := (List.getElem?_eq_some_iff.mp hx).1
          omega
        have h := (nm m hm).2
        have hx' : x = V.str (ss.getD m "") := by
          rw [List.getElem?_map, List.getElem?_eq_getElem (show m < ss.length by omega)] at hx
          rw [List.getD_eq_getElem?_getD, List.getElem?_eq_getElem (show m < ss.length by omega)]
          exact (Option.some.inj hx).symm
        rw [hx']
        exact u_tup (g_cons v_con (g_cons (v_slot rfl) (g_cons v_con g_nil))) (show 3 ≤ 100000 by decide)
      · obtain ⟨m, hm, rfl⟩ := List.mem_map.mp hd
        have := List.mem_range.mp hm
        exact ⟨.inl rfl, (nm m (by omega)).1, .inl rfl⟩
    have g5 := g4.trans e5
    have hpp5 := e5.lst hpp4
    refine B_setR (Ls.toN (l_lst g_nil (show 0 ≤ 100000 by decide))) fun v H6 e6 ⟨pe, ev, hpe, h6⟩ => ?_
    subst ev
    walk_at "n"
    have g6 := g5.trans e6
    refine B_when (s_test (v_op (v_slot rfl) v_con (bi_eq rfl))) (fun hb3 H7 e7 => ?_) fun hb3 H7 e7 => S_ret (v_slot rfl) fun H8 e8 => q _ H8 ((g6.trans e7).trans e8) ⟨pe, [], [], rfl, g5.free hpe, (e7.trans e8).lst h6, .nil, by decide, fun _ h => absurd h List.not_mem_nil⟩
    have g7 := g6.trans e7
    have hpp7 := (e6.trans e7).lst hpp5
    refine B_setR (r_lst2 (u_tup (g_cons v_con (g_cons (v_op (v_slot rfl) v_con (bi_ixL (SqL.of hpp7) (nm 0 (by decide)).2)) (g_cons v_con g_nil))) (show 3 ≤ 100000 by decide)) (u_tup (g_cons v_con (g_cons (v_op (v_slot rfl) v_con (bi_ixL (SqL.of hpp7) (nm 1 (by decide)).2)) (g_cons v_con g_nil))) (show 3 ≤ 100000 by decide))) fun v H8 e8 ⟨pd, pa, pb, ev, hpd, h8, h8a, h8b⟩ => ?_
    subst ev
    walk_at "n"
    have g8 := g7.trans e8
    have npd : H pd = none := g7.free hpd
    obtain ⟨j, ej, j1⟩ := b01
    have bc := fmod_in (cellAt ns 5) (m := 20 + 100 * (j : Int)) (by omega)
    refine S_for1 (n := (cellAt ns 5).fmod (20 + 100 * (j : Int))) (g_cons (v_op (cl 5 rfl g8 rfl v_con) (v_op v_con (v_op v_con (Vl.is (v_intB (v_slot rfl)) (by rw [ej])) (bi_C (.inl ⟨by decide, by decide⟩))) bi_0) (bi_C (show (20 : Int) + 100 * (j : Int) ≠ 0 by omega))) g_nil) (by omega) (fun m σ' H' => ∃ y7 xs ds, σ' = [some (.ref a), some (.int (n : Int)), some (.ref pp), some (.int way), some (.bl large), none, some (.ref pd), y7, none] ∧ Gr H H' ∧ H' pp = some (.lst (ss.map V.str)) ∧ H' pd = some (.lst xs) ∧ TupsAt H' Deed.vs xs ds ∧ ds.length = 2 + 2 * m ∧ ∀ d ∈ ds, d.good) (fun H9 g => ⟨_, _, [⟨wCame, ss.getD 0 "", rd⟩, ⟨wCame, ss.getD 1 "", wr⟩], rfl, g8.trans g, (e8.trans g).lst hpp7, g.lst h8, .cons (g.tup h8a) (.cons (g.tup h8b) .nil), rfl, fun d hd => ?g0⟩) ?hs ?hd
    case g0 =>
      simp only [List.mem_cons, List.not_mem_nil, or_false] at hd
      rcases hd with rfl | rfl
      · exact ⟨.inl rfl, (nm 0 (by decide)).1, .inl rfl⟩
      · exact ⟨.inl rfl, (nm 1 (by decide)).1, .inr rfl⟩
    case hd =>
      rintro σ' H9 ⟨y7, xs, ds, rfl, g, h1, h2, tx, ld, gd⟩
      exact S_ret (v_slot rfl) fun H10 e10 => q _ H10 (g.trans e10) ⟨pd, xs, ds, rfl, npd, e10.lst h2, tx.mono e10, by omega, gd⟩
    rintro m σ' H9 hm ⟨y7, xs, ds, rfl, g, h1, h2, tx, ld, gd⟩
    walk_at "n"
    have lx := tx.length
    have b3 := fmod_in (m : Int) (m := 3) (by decide)
    have i3 : (2 : Int) + (m : Int).fmod 3 = ((2 + ((m : Int).fmod 3).toNat : Nat) : Int) := by omega
    have nmi := nm (2 + ((m : Int).fmod 3).toNat) (by omega)
    have nep : pp ≠ pd := fun z => by
      have hh : H7 pp = some (.lst (ss.map V.str)) := hpp7
      rw [z, hpd] at hh
      cases hh
    refine B_appU h2 (v_slot rfl) (u_tup (g_cons v_con (g_cons (v_op (v_slot rfl) (v_op v_con (v_op (v_slot rfl) v_con (bi_C (show (3 : Int) ≠ 0 by decide))) bi_0) (bi_ixL (SqL.of h1) (by rw [i3]; exact nmi.2))) (g_cons v_con g_nil))) (show 3 ≤ 100000 by decide)) (by omega) fun pt H10 hpt e10 h10 => ?_
    have h2' := e10.lst h2
    have tx1 := ((tx.mono e10).chg (a := pd) (o := .lst (xs ++ [.ref pt])) fun ts z => by rw [h2'] at z; cases z).snoc (r := (⟨wCame, ss.getD (2 + ((m : Int).fmod 3).toNat) "", rd⟩ : Deed)) ((upd_ne fun z => by rw [z, h2'] at h10; cases h10).trans h10)
    have g11 := (g.trans e10).chg npd (o := .lst (xs ++ [.ref pt]))
    have h1' : (upd H10 pd (.lst (xs ++ [.ref pt]))) pp = some (.lst (ss.map V.str)) := (upd_ne nep).trans (e10.lst h1)
    have h3' : (upd H10 pd (.lst (xs ++ [.ref pt]))) pd = some (.lst (xs ++ [.ref pt])) := upd_same
    generalize upd H10 pd (.lst (xs ++ [.ref pt])) = H11 at tx1 g11 h1' h3' ⊢
    refine S_appU h3' (v_slot rfl) (u_tup (g_cons v_con (g_cons (v_op (v_slot rfl) (v_op v_con (v_op (v_slot rfl) v_con (bi_C (show (3 : Int) ≠ 0 by decide))) bi_0) (bi_ixL (SqL.of h1') (by rw [i3]; exact nmi.2))) (g_cons v_con g_nil))) (show 3 ≤ 100000 by decide)) (by rw [List.length_append]; show xs.length + 1 < 100000; omega) fun pu H12 hpu e12 h12 => ?_
    have h4' := e12.lst h3'
    refine ⟨_, _, _, rfl, (g11.trans e12).chg npd, (upd_ne nep).trans (e12.lst h1'), upd_same, ((tx1.mono e12).chg fun ts z => by rw [h4'] at z; cases z).snoc (r := (⟨wLeft, ss.getD (2 + ((m : Int).fmod 3).toNat) "", rd⟩ : Deed)) ((upd_ne fun z => by rw [z, h4'] at h12; cases h12).trans h12), by rw [List.length_append, List.length_append, ld]; show 2 + 2 * m + 1 + 1 = _; omega, fun d hd => ?_⟩
    rcases List.mem_append.mp hd with z | z
    · rcases List.mem_append.mp z with z | z
      · exact gd d z
      · rw [List.mem_singleton.mp z]
        exact ⟨.inl rfl, nmi.1, .inl rfl⟩
    · rw [List.mem_singleton.mp z]
      exact ⟨.inr (.inl rfl), nmi.1, .inl rfl⟩
-- no Deeds here
--CUT
theorem ok_IsName (T : Top K mg) (TB : Tabs T base) : FnOk P w K mg base CX0 1 T.f_IsName T.fd_IsName ["thing"] (spKind K T.ta_IsName nameB) := by
  refine fun_okC T.F_IsName T.cd_IsName scIsName (fun vs H Q E h => ?_) (fun A outer s H vs Q E hr h => ?_)
  · obtain ⟨v, rfl, hT, hv⟩ := h
    rfl
  · obtain ⟨v, rfl, hT, hv⟩ := h
    refine ⟨_, (pss_cons (ps_if (pt_not (pt_val (pe_callB call_isi (by rfl) T.m_isinstance (by decide +kernel) (pa_cons (pv 0) (pa_cons (pe_bltn (v := .ty "str") (by rfl) T.m_str (by decide +kernel) rfl) pa_nil)))))
      (pss_one (ps_ret pe_bl))
      pss_nil)
      (pss_cons (ps_if (pt_not (pt_chain op_le op_le pe_int (pe_callB call_len_str (by rfl) T.m_len PySem.boot_len (pa_cons (pv 0) pa_nil)) (pe_glob (v := .int 12) rfl T.c_NAME_LENGTH ⟨_, rfl⟩)))
      (pss_one (ps_ret pe_bl))
      pss_nil)
      (pss_one (ps_ret (RG.pe_allG hr (by rfl) T.m_all TB.IsName rfl ⟨by rfl, by rfl, by decide +kernel, by rfl, by rfl, RG.nofree (by decide +kernel)⟩ (pv 0) (RG.elt_in (by rfl) (by rfl) (by rfl) T.c_NAME_SIGNS) (fun _ => rfl)))))), ?_⟩
    refine slots (start_IsName _) ?_
    rcases hv with ⟨z, rfl, hz, q⟩ | ⟨hn, q⟩
    · refine B_when (s_not (s_B (v_issS (v_slot rfl)))) (fun hb => absurd hb (by decide)) fun _ H1 e1 => ?_
      replace q := q.mono e1
      replace hT := e1.tab hT
      refine' B_when ?h ?k1 ?k2
      (case h => refine' s_not ?a; (case a => refine' s_test ?b; (case b => exact v_chain v_con (v_lenS (v_slot rfl) hz) bi_0 (fun _ => v_con) (fun _ => bi_0))))
      all_goals intro hb H2 e2
      · refine S_ret v_con fun H3 e3 => ?_
        have e : nameB z = false := by
          unfold nameB
          rw [Bool.not_eq_true'] at hb
          rw [hb]
          rfl
        rw [e] at q
        exact q H3 (e2.trans e3)
      · have e : nameB z = z.cps.toList.all fun k => decide (k ∈ signs.cps.toList) := by
          unfold nameB
          rw [Bool.not_eq_false'] at hb
          rw [hb]
          rfl
        rw [e] at q
        refine ⟨_, rfl, z, rfl, e2.tab hT, fun H3 tb => ?_⟩
        exact q H3 (e2.trans (.ofTab (e2.tab hT) tb))
    · refine B_when (s_not (s_B (v_nostr (v_slot rfl) hn))) (fun _ H1 e1 => ?_) (fun hb => absurd hb (by decide))
      exact S_ret v_con fun H2 e2 => q H2 (e1.trans e2)
theorem ok_IsWish (T : Top K mg) (TB : Tabs T base) : FnOk P w K mg base CX0 1 T.f_IsWish T.fd_IsWish ["thing"] (spKind K T.ta_IsName wishB) := by
  refine T.F_IsWish.ok scIsWish (fun vs H Q E h => ?_) (fun cdv A outer s H vs Q E hr h => ?_)
  · obtain ⟨v, rfl, hT, hv⟩ := h
    rfl
  · obtain ⟨v, rfl, hT, hv⟩ := h
    refine ⟨_, (pss_one (ps_ret (pe_and (pe_callB call_isi (by rfl) T.m_isinstance (by decide +kernel) (pa_cons (pv 0) (pa_cons (pe_bltn (v := .ty "str") (by rfl) T.m_str (by decide +kernel) rfl) pa_nil))) (pe_one (pe_cmpR op_in_seq (pv 0) (pe_tup (pa_cons (pe_glob (v := .str (Str.ofString "read")) rfl T.c_READ ⟨_, rfl⟩) (pa_cons (pe_glob (v := .str (Str.ofString "write")) rfl T.c_WRITE ⟨_, rfl⟩) pa_nil))) (by rfl)))))), ?_⟩
    refine slots (start_IsWish _) ?_
    rcases hv with ⟨z, rfl, hz, q⟩ | ⟨hn, q⟩
    · refine' S_ret ?h ?k
      (case h => refine' v_and (v_issS (v_slot rfl)) (fun _ => ?b); (case b => exact v_opU (v_slot rfl) (u_tup (g_cons v_con (g_cons v_con g_nil)) (by decide)) (fun p H1 hp _ => bi_inT (SqT.of hp) rfl rfl)))
      intro H1 e1
      have e : (true && (if false = true then !inV (.str z) [V.str (Str.ofString "read"), V.str (Str.ofString "write")] else inV (.str z) [V.str (Str.ofString "read"), V.str (Str.ofString "write")])) = wishB z := by
        rw [if_neg Bool.false_ne_true, Bool.true_and]
        rfl
      rw [e]
      exact q H1 e1
    · refine' S_ret ?h2 ?k2
      (case h2 => exact v_and (c := false) (v_nostr (v_slot rfl) hn) (fun hb => absurd hb (by decide)))
      intro H1 e1
      exact q H1 e1

theorem ok_Can (T : Top K mg) (TB : Tabs T base) : FnOk P w K mg base CX0 1 T.f_Can T.fd_Can ["seats", "reading", "writes", "wish"] (spCan) := by
  refine T.F_Can.ok scCan (fun vs H Q E h => ?_) (fun cdv A outer s H vs Q E hr h => ?_)
  · obtain ⟨m, r, b, z, rfl, q⟩ := h
    rfl
  · obtain ⟨m, r, b, z, rfl, q⟩ := h
    refine ⟨_, (pss_cons (ps_if (pt_val (pv 2))
      (pss_one (ps_ret pe_bl))
      pss_nil)
      (pss_cons (ps_if (pt_cmpR op_eq (pv 3) (pe_glob (v := .str (Str.ofString "read")) rfl T.c_READ ⟨_, rfl⟩) (nomark _))
      (pss_one (ps_ret (pe_cmpR op_lt (pv 1) (pv 0) (nomark _))))
      pss_nil)
      (pss_one (ps_ret (pe_cmpR op_eq (pv 1) pe_int (nomark _)))))), ?_⟩
    refine slots (start_Can _ _ _ _) ?_
    walk_at "when"
    all_goals intro hc H2 e2
    · refine S_ret v_con fun H3 e3 => ?_
      have g : canB m r b z = false := if_pos hc
      rw [g] at q
      exact q H3 (e2.trans e3)
    replace q := q.mono e2
    have n1 : ¬ b = true := fun z => by rw [hc] at z; cases z
    walk_at "when"
    all_goals intro hc2 H2 e2
    · walk_at "ret"
      intro H3 e3
      have c1 : z = rd := V.str.inj (of_decide_eq_true hc2)
      have g : canB m r b z = decide (r < m) := by unfold canB; rw [if_neg n1, if_pos c1]
      rw [g] at q
      exact q H3 (e2.trans e3)
    have n2 : ¬ z = rd := fun w => of_decide_eq_false hc2 (congrArg V.str w)
    walk_at "ret"
    intro H3 e3
    have g : canB m r b z = decide (V.int r = V.int 0) := by
      unfold canB
      rw [if_neg n1, if_neg n2]
      exact decide_eq_decide.mpr ⟨congrArg V.int, V.int.inj⟩
    rw [g] at q
    exact q H3 (e2.trans e3)
theorem ok_First (T : Top K mg) (TB : Tabs T base) : FnOk P w K mg base CX0 1 T.f_First T.fd_First ["line", "patience"] (spFirst K) := by
  refine T.F_First.ok scFirst (fun vs H Q E h => ?_) (fun cdv A outer s H vs Q E hr h => ?_)
  · obtain ⟨a, vs, l, p, rfl, hL, hR, q⟩ := h
    rfl
  · obtain ⟨a, vs, l, p, rfl, hL, hR, q⟩ := h
    refine ⟨_, (pss_cons (ps_for PassesOwn.never rfl (pi_enum (by rfl) T.m_enumerate (pa_cons (pv 0) pa_nil)) (pg_tup rfl (pgs_cons (pg_name (i := 2) scFirst.nd rfl (Or.inl rfl)) (pgs_cons (pg_tup rfl (pgs_cons (pg_name (i := 3) scFirst.nd rfl (Or.inl rfl)) (pgs_cons (pg_name (i := 4) scFirst.nd rfl (Or.inl rfl)) (pgs_cons (pg_name (i := 5) scFirst.nd rfl (Or.inl rfl)) pgs_nil)))) pgs_nil)))
      (pss_cons (ps_if (pt_cmpR op_eq (pv 4) (pe_glob (v := .str (Str.ofString "read")) rfl T.c_READ ⟨_, rfl⟩) (nomark _))
      (pss_one (ps_ret (pv 2)))
      pss_nil)
      (pss_one (ps_if (pt_cmpR op_ge (pv 5) (pv 1) (nomark _))
      (pss_one (ps_ret pe_non))
      pss_nil))))
      (pss_one (ps_ret pe_non))), ?_⟩
    refine slots (start_First _ _) ?_
    refine' B_forE (v_slot rfl) (SqL.of hL) (fun m σ' H' => ∃ y2 y3 y4 y5, σ' = [some (.ref a), some (.int p), y2, y3, y4, y5] ∧ Gr H H' ∧ RV (natV (scan p (l.drop m) m)) H Q) ?h0 ?hl ?hs ?hd
    case h0 =>
      intro H1 e1
      exact ⟨none, none, none, none, rfl, e1, q⟩
    case hl =>
      rintro m σ' H' _ ⟨y2, y3, y4, y5, rfl, g, _⟩
      exact SqL.of (g.lst hL)
    case hs =>
      rintro m x T σ' H' hx ⟨y2, y3, y4, y5, rfl, g, k⟩ nT
      have ml : m < l.length := by
        have := (List.getElem?_eq_some_iff.mp hx).1
        rw [hR.length] at this
        exact this
      obtain ⟨pr, e1, h1⟩ := hR.get m (List.getElem?_eq_getElem ml)
      rw [hx] at e1
      cases e1
      have ed : l.drop m = l[m] :: l.drop (m + 1) := List.drop_eq_getElem_cons ml
      rw [ed] at k
      generalize l[m] = r at h1 k
      have gT : Gr H (upd H' T (.tup [.int (m : Nat), .ref pr])) := g.trans (.new nT)
      refine ⟨T, _, rfl, SqT.of upd_same, rfl, .int (m : Nat), _, rfl, .ref pr, _, rfl, ⟨pr, _, rfl, SqT.of (gT.tup h1), rfl, .str r.who, _, rfl, .str r.wish, _, rfl, .int r.often, _, rfl, rfl, rfl, ?_⟩⟩
      walk_at "when"
      all_goals intro hb H2 e2
      · refine S_ret (v_slot rfl) fun H3 e3 => ?_
        have ew : r.wish = rd := V.str.inj (of_decide_eq_true hb)
        have e : scan p (r :: l.drop (m + 1)) m = some m := by
          unfold scan
          rw [if_pos ew]
        rw [e] at k
        exact k H3 ((gT.trans e2).trans e3)
      · have ew : ¬ r.wish = rd := fun z => of_decide_eq_false hb (congrArg V.str z)
        walk_at "whenE"
        all_goals intro hb2 H3 e3
        · refine S_ret v_con fun H4 e4 => ?_
          have e : scan p (r :: l.drop (m + 1)) m = none := by
            unfold scan
            rw [if_neg ew, if_pos (of_decide_eq_true hb2)]
          rw [e] at k
          exact k H4 (((gT.trans e2).trans e3).trans e4)
        · have e : scan p (r :: l.drop (m + 1)) m = scan p (l.drop (m + 1)) (m + 1) := by
            conv => lhs; unfold scan
            rw [if_neg ew, if_neg (of_decide_eq_false hb2)]
          rw [e] at k
          exact ⟨_, _, _, _, rfl, (gT.trans e2).trans e3, k⟩
    case hd =>
      rintro σ' H' ⟨y2, y3, y4, y5, rfl, g, k⟩
      refine S_ret v_con fun H3 e3 => ?_
      rw [hR.length, List.drop_length] at k
      exact k H3 (g.trans e3)
theorem ok_NextP (T : Top K mg) (TB : Tabs T base) : FnOk P w K mg base CX0 2 T.f_NextP T.fd_NextP ["line", "seats", "patience", "reading", "writes"] (spNextP K) := by
  have GCan := ok_Can (P := P) (w := w) (base := base) T TB
  have GFirst := ok_First (P := P) (w := w) (base := base) T TB
  refine T.F_NextP.ok scNextP (fun vs H Q E h => ?_) (fun cdv A outer s H vs Q E hr h => ?_)
  · obtain ⟨a, vs, l, m, p, r, b, rfl, hL, hR, q⟩ := h
    rfl
  · obtain ⟨a, vs, l, m, p, r, b, rfl, hL, hR, q⟩ := h
    refine ⟨_, (pss_cons (ps_if (pt_not (pt_truth (pv 0) (by intro _; rfl)))
      (pss_one (ps_ret pe_non))
      pss_nil)
      (pss_cons (ps_set (i := 5) scNextP.nd rfl (Or.inl rfl) (pe_ix ix_tup (pe_ix ix_list (pv 0) pe_int (fun _ _ => rfl)) pe_int (fun _ _ => rfl)))
      (pss_cons (ps_if (pt_val (pe_call GCan hr (by rfl) T.g_Can T.F_Can.kp T.B_Can .nil pass0 (pa_cons (pv 1) (pa_cons (pv 3) (pa_cons (pv 4) (pa_cons (pv 5) pa_nil))))))
      (pss_one (ps_ret pe_int))
      pss_nil)
      (pss_cons (ps_if (PW.pt (pw_and (pt_cmpR op_eq (pv 5) (pe_glob (v := .str (Str.ofString "write")) rfl T.c_WRITE ⟨_, rfl⟩) (nomark _)) (pw_and (pt_cmpR op_gt (pv 3) pe_int (nomark _)) (pw_and1 (pt_val (pe_call GCan hr (by rfl) T.g_Can T.F_Can.kp T.B_Can .nil pass0 (pa_cons (pv 1) (pa_cons (pv 3) (pa_cons (pv 4) (pa_cons (pe_glob (v := .str (Str.ofString "read")) rfl T.c_READ ⟨_, rfl⟩) pa_nil))))))))))
      (pss_one (ps_ret (pe_call GFirst hr (by rfl) T.g_First T.F_First.kp T.B_First .nil pass0 (pa_cons (pv 0) (pa_cons (pv 2) pa_nil)))))
      pss_nil)
      (pss_one (ps_ret pe_non)))))), ?_⟩
    refine slots (start_NextP _ _ _ _ _) ?_
    refine' B_when (s_not (s_truL (v_slot rfl) (SqL.of hL))) ?y1 ?n1
    case y1 =>
      intro hb H1 e1
      refine S_ret v_con fun H2 e2 => ?_
      have e0 : l = [] := by
        cases vs with
        | nil =>
          have := hR.length
          exact List.length_eq_zero_iff.mp this.symm
        | cons v vs => simp at hb
      subst e0
      exact q H2 (e1.trans e2)
    intro hb H1 e1
    obtain ⟨r1, l1, rfl⟩ : ∃ r1 l1, l = r1 :: l1 := by
      cases l with
      | nil =>
        have := hR.length
        rw [List.length_nil] at this
        rw [List.length_eq_zero_iff.mp this] at hb
        simp at hb
      | cons r1 l1 => exact ⟨r1, l1, rfl⟩
    obtain ⟨p1, ev, hp1⟩ := hR.get 0 rfl
    replace q := q.mono e1
    replace hL := e1.lst hL
    replace hR := hR.mono e1
    replace hp1 := e1.tup hp1
    have f1 : ∀ {H2 : Hp} {σ : L2.St}, Gr H1 H2 → σ[0]? = some (some (.ref a)) → Vl (tOp (rIxT K) (tOp (rIxL K) (tVar 0) (tC (.int 0))) (tC (.int 1))) σ H2 (.str r1.wish) := fun g hs => v_fld (m := 0) (i := 1) (SqL.of (g.lst hL)) ev (g.tup hp1) rfl (v_slot hs) v_con
    refine B_set (f1 (.refl _) rfl) fun H2 e2 => ?_
    have sc : ∀ {H3 : Hp} {z : Str}, SpV spCan [.int m, .int r, .bl b, .str z] H3 (.bl (canB m r b z)) := fun H4 Q4 E4 g4 q4 => ⟨m, r, b, _, rfl, q4⟩
    refine' B_when (s_B (v_call (g_cons (v_slot rfl) (g_cons (v_slot rfl) (g_cons (v_slot rfl) (g_cons (v_slot rfl) g_nil)))) sc)) ?y2 ?n2
    case y2 =>
      intro hc H3 e3
      refine S_ret v_con fun H4 e4 => ?_
      have e : nextQ (r1 :: l1) m p r b = some 0 := if_pos hc
      rw [e] at q
      exact q H4 ((e2.trans e3).trans e4)
    intro hc H3 e3
    refine' B_when (s_and (b := decide (r1.wish = wr)) (Ts.is (s_test (v_op (v_slot rfl) v_con (bi_eq rfl))) ?ew) (fun _ => s_and (s_test (v_op (v_slot rfl) v_con bi_0)) (fun _ => s_B (v_call (g_cons (v_slot rfl) (g_cons (v_slot rfl) (g_cons (v_slot rfl) (g_cons v_con g_nil)))) sc)))) ?y3 ?n3
    case ew => exact decide_eq_decide.mpr ⟨V.str.inj, congrArg V.str⟩
    case y3 =>
      intro hb3 H4 e4
      have g4 := (e2.trans e3).trans e4
      simp only [Bool.and_eq_true, decide_eq_true_eq] at hb3
      have e : nextQ (r1 :: l1) m p r b = scan p (r1 :: l1) 0 := by
        rw [nextQ_cons, if_neg (by rw [hc]; exact Bool.false_ne_true), if_pos hb3]
      rw [e] at q
      exact S_ret (v_call (g_cons (v_slot rfl) (g_cons (v_slot rfl) g_nil)) fun H5 Q5 E5 g5 q5 => ⟨a, vs, _, p, rfl, (g4.trans g5).lst hL, hR.mono (g4.trans g5), q5⟩) fun H5 e5 => q H5 (g4.trans e5)
    · intro hb3 H4 e4
      refine S_ret v_con fun H5 e5 => ?_
      have e : nextQ (r1 :: l1) m p r b = none := by
        rw [nextQ_cons, if_neg (by rw [hc]; exact Bool.false_ne_true), if_neg (fun h => ?_)]
        obtain ⟨h1, h2, h3⟩ := h
        rw [decide_eq_true h1, Bool.true_and, decide_eq_true h2, Bool.true_and] at hb3
        rw [h3] at hb3
        cases hb3
      rw [e] at q
      exact q H5 (((e2.trans e3).trans e4).trans e5)
theorem ok_IsIn (T : Top K mg) (TB : Tabs T base) : FnOk P w K mg base CX0 1 T.f_IsIn T.fd_IsIn ["self", "name"] (spIsIn K T.ta_IsName) := by
  refine T.F_IsIn.ok scIsIn (fun vs H Q E h => ?_) (fun cdv A outer s H vs Q E hr h => ?_)
  · obtain ⟨r, z, rfl, h, q⟩ := h
    rfl
  · obtain ⟨r, z, rfl, h, q⟩ := h
    refine ⟨_, (pss_one (ps_ret (pe_or (pe_cmp (pc_din (hu_of hr) (pv 1) (pe_fld (pv 0) rfl))) (pe_one (pe_cmpR op_eq (pv 1) (pe_fld (pv 0) rfl) (nomark _)))))), ?_⟩
    refine slots (start_IsIn _ _) ?_
    refine S_ret (v_or (v_din (v_slot rfl) (v_at (v_slot rfl) h.ins T.cl_Room T.n_Room__readers rfl) h.dict) (fun _ => v_op (v_slot rfl) (v_at (v_slot rfl) h.ins T.cl_Room T.n_Room__writer rfl) (bi_eq (by cases r.s.alone <;> rfl)))) fun H1 e1 => ?_
    have e : (decide (z ∈ r.s.reading) || decide (V.str z = optV r.s.alone)) = r.s.isIn z := by
      unfold Now.isIn
      rw [← optV_is]
      congr 1
      exact decide_eq_decide.mpr ⟨Eq.symm, Eq.symm⟩
    rw [e]
    exact q H1 e1
theorem ok_PlaceM (T : Top K mg) (TB : Tabs T base) : FnOk P w K mg base CX0 1 T.f_PlaceM T.fd_PlaceM ["self", "name"] (spPlaceM K T.ta_IsName) := by
  refine T.F_PlaceM.ok scPlaceM (fun vs H Q E h => ?_) (fun cdv A outer s H vs Q E hr h => ?_)
  · obtain ⟨r, z, rfl, h, q⟩ := h
    rfl
  · obtain ⟨r, z, rfl, h, q⟩ := h
    refine ⟨_, (pss_cons (ps_for PassesOwn.never rfl (pi_enum (by rfl) T.m_enumerate (pa_cons (pe_fld (pv 0) rfl) pa_nil)) (pg_tup rfl (pgs_cons (pg_name (i := 2) scPlaceM.nd rfl (Or.inl rfl)) (pgs_cons (pg_name (i := 3) scPlaceM.nd rfl (Or.inl rfl)) pgs_nil)))
      (pss_one (ps_if (pt_cmpR op_eq (pe_ix ix_tup (pv 3) pe_int (fun _ _ => rfl)) (pv 1) (nomark _))
      (pss_one (ps_ret (pv 2)))
      pss_nil)))
      (pss_one (ps_ret pe_non))), ?_⟩
    refine slots (start_PlaceM _ _) ?_
    obtain ⟨xs, hx, tx⟩ := id h.line
    refine' B_forE (v_at (v_slot rfl) h.ins T.cl_Room T.n_Room__line rfl) (SqL.of hx) (fun m σ' H' => ∃ y2 y3, σ' = [some (.ref r.p), some (.str z), y2, y3] ∧ Gr H H' ∧ RV (natV (findAt z (r.s.queue.drop m) m)) H Q) ?h0 ?hl ?hs ?hd
    case h0 => exact fun H1 e1 => ⟨none, none, rfl, e1, q⟩
    case hl =>
      rintro m σ' H' _ ⟨y2, y3, rfl, g, _⟩
      exact SqL.of (g.lst hx)
    case hs =>
      rintro m x T0 σ' H' hxm ⟨y2, y3, rfl, g, k⟩ nT
      have ml : m < r.s.queue.length := by
        have := (List.getElem?_eq_some_iff.mp hxm).1
        rw [tx.length] at this
        exact this
      obtain ⟨pr, e1, h1⟩ := tx.get m (List.getElem?_eq_getElem ml)
      rw [hxm] at e1
      cases e1
      have ed : r.s.queue.drop m = r.s.queue[m] :: r.s.queue.drop (m + 1) := List.drop_eq_getElem_cons ml
      rw [ed] at k
      generalize r.s.queue[m] = u at h1 k
      have gT : Gr H (upd H' T0 (.tup [.int (m : Nat), .ref pr])) := g.trans (.new nT)
      refine ⟨T0, _, rfl, SqT.of upd_same, rfl, .int (m : Nat), _, rfl, .ref pr, _, rfl, rfl, ?_⟩
      walk_at "n"
      refine S_when (b := decide (u.who = z)) (Ts.is (s_test (v_op (v_op (v_slot rfl) v_con (bi_ixT (SqT.of (gT.tup h1)) rfl)) (v_slot rfl) (bi_eq rfl))) (decide_eq_decide.mpr ⟨V.str.inj, congrArg V.str⟩)) (fun hb H2 e2 => ?_) fun hb H2 e2 => ?_
      · refine S_ret (v_slot rfl) fun H3 e3 => ?_
        rw [show findAt z (u :: r.s.queue.drop (m + 1)) m = some m from if_pos (of_decide_eq_true hb)] at k
        exact k H3 ((gT.trans e2).trans e3)
      · rw [show findAt z (u :: r.s.queue.drop (m + 1)) m = findAt z (r.s.queue.drop (m + 1)) (m + 1) from if_neg (of_decide_eq_false hb)] at k
        exact ⟨_, _, rfl, gT.trans e2, k⟩
    case hd =>
      rintro σ' H' ⟨y2, y3, rfl, g, k⟩
      refine S_ret v_con fun H3 e3 => ?_
      rw [tx.length, List.drop_length] at k
      exact k H3 (g.trans e3)
theorem ok_IsKnown (T : Top K mg) (TB : Tabs T base) : FnOk P w K mg base CX0 2 T.f_IsKnown T.fd_IsKnown ["self", "name"] (spIsKnown K T.ta_IsName) := by
  have GIsName := ok_IsName (P := P) (w := w) (base := base) T TB
  have GIsIn := ok_IsIn (P := P) (w := w) (base := base) T TB
  have GPlaceM := ok_PlaceM (P := P) (w := w) (base := base) T TB
  refine T.F_IsKnown.ok scIsKnown (fun vs H Q E h => ?_) (fun cdv A outer s H vs Q E hr h => ?_)
  · obtain ⟨r, v, rfl, h, o, th, q⟩ := h
    rfl
  · obtain ⟨r, v, rfl, h, o, th, q⟩ := h
    refine ⟨_, (pss_cons (ps_if (pt_not (pt_val (pe_call GIsName hr (by rfl) T.g_IsName T.F_IsName.kp T.B_IsName .nil pass0 (pa_cons (pv 1) pa_nil))))
      (pss_one (ps_ret pe_bl))
      pss_nil)
      (pss_one (ps_ret (pe_or (pe_meth (pv 0) T.cl_Room T.M_IsIn GIsIn hr T.B_IsIn .nil pass0 (pa_cons (pv 1) pa_nil)) (pe_one (pe_cmpR op_notN (pe_meth (pv 0) T.cl_Room T.M_PlaceM GPlaceM hr T.B_PlaceM .nil pass0 (pa_cons (pv 1) pa_nil)) pe_non (nomark _))))))), ?_⟩
    refine slots (start_IsKnown _ _) ?_
    refine B_when (b := !nameV v) (s_not (s_B (v_call (g_cons (v_slot rfl) g_nil) (sv_name h.tab th)))) (fun hb H1 e1 => ?_) fun hb H1 e1 => ?_
    · refine S_ret v_con fun H2 e2 => ?_
      have e : knownV r.s v = false := by
        rw [Bool.not_eq_true'] at hb
        cases v <;> first | rfl | skip
        rename_i z
        cases k : r.s.known z with
        | false => exact k
        | true => rw [show nameV (.str z) = nameB z from rfl, o.named k] at hb; cases hb
      rw [e] at q
      exact q H2 (e1.trans e2)
    · rw [Bool.not_eq_false'] at hb
      obtain ⟨z, rfl⟩ : ∃ z, v = .str z := by
        cases v <;> first | (cases hb; done) | exact ⟨_, rfl⟩
      have h1 := h.mono e1
      refine S_ret (v_or (v_meth (v_slot rfl) h1.ins rfl (g_cons (v_slot rfl) g_nil) (sv_isin h1)) (fun _ => v_op (v_meth (v_slot rfl) h1.ins rfl (g_cons (v_slot rfl) g_nil) (sv_place h1)) v_con bi_notN)) fun H2 e2 => ?_
      have e : (r.s.isIn z || !decide (natV (findAt z r.s.queue 0) = .non)) = knownV r.s (.str z) := by
        show _ = r.s.known z
        rw [Now.known_is, ← findAt_mem (k := 0)]
        congr 1
        cases findAt z r.s.queue 0 <;> rfl
      rw [e]
      exact q H2 (e1.trans e2)
theorem ok_NeedKnown (T : Top K mg) (TB : Tabs T base) : FnOk P w K mg base (L2N.CX P w) 3 T.f_NeedKnown T.fd_NeedKnown ["self", "name"] (spNeedKnown K T.ta_IsName) := by
  have GIsKnown := ok_IsKnown (P := P) (w := w) (base := base) T TB
  refine RX.okN T.F_NeedKnown scNeedKnown (fun vs H Q E h => ?_) (fun cdv A outer s H vs Q E hr h => ?_)
  · obtain ⟨r, v, rfl, h, o, th, q⟩ := h
    rfl
  · obtain ⟨r, v, rfl, h, o, th, q⟩ := h
    refine ⟨_, (pss_one (ps_if (pt_not (pt_val (pe_meth (pv 0) T.cl_Room T.M_IsKnown GIsKnown hr T.B_IsKnown .nil pass0 (pa_cons (pv 1) pa_nil))))
      (pss_one (L2N.ps_raise rfl (L2N.takes_of rfl rfl rfl rfl) (L2N.pmk_own PySem.F.excBase_ValueError T.xx_Stranger.1 T.gc_Stranger T.xx_Stranger.2.1 (raises_own T.xx_Stranger.2.2.1 T.xx_Stranger.2.2.2) (by exact rfl))))
      pss_nil)), ?_⟩
    refine slots (start_NeedKnown _ _) ?_
    refine S_when (b := !knownV r.s v) (s_not (s_B (v_meth (v_slot rfl) h.ins rfl (g_cons (v_slot rfl) g_nil) (sv_isknown h o th)))) (fun hb H1 e1 => ?_) fun hb H1 e1 => ?_
    · rw [Bool.not_eq_true'] at hb
      unfold refKnown at q
      rw [if_neg (by rw [hb]; exact Bool.false_ne_true)] at q
      exact q H1 e1
    · rw [Bool.not_eq_false'] at hb
      unfold refKnown at q
      rw [if_pos hb] at q
      exact q H1 e1
theorem ok_NeedIn (T : Top K mg) (TB : Tabs T base) : FnOk P w K mg base (L2N.CX P w) 4 T.f_NeedIn T.fd_NeedIn ["self", "name"] (spNeedIn K T.ta_IsName) := by
  have GNeedKnown := ok_NeedKnown (P := P) (w := w) (base := base) T TB
  have GIsIn := ok_IsIn (P := P) (w := w) (base := base) T TB
  refine RX.okN T.F_NeedIn scNeedIn (fun vs H Q E h => ?_) (fun cdv A outer s H vs Q E hr h => ?_)
  · obtain ⟨r, v, rfl, h, o, th, q⟩ := h
    rfl
  · obtain ⟨r, v, rfl, h, o, th, q⟩ := h
    refine ⟨_, (pss_cons (ps_expr (pe_meth (pv 0) T.cl_Room T.M_NeedKnown GNeedKnown hr T.B_NeedKnown .nil (RX.passD (L2N.takes_of rfl rfl rfl rfl)) (pa_cons (pv 1) pa_nil)))
      (pss_one (ps_if (pt_not (pt_val (pe_meth (pv 0) T.cl_Room T.M_IsIn GIsIn (hr.mono (by decide)) T.B_IsIn .nil pass0 (pa_cons (pv 1) pa_nil))))
      (pss_one (L2N.ps_raise rfl (L2N.takes_of rfl rfl rfl rfl) (L2N.pmk_own PySem.F.excBase_ValueError T.xx_Outside.1 T.gc_Outside T.xx_Outside.2.1 (raises_own T.xx_Outside.2.2.1 T.xx_Outside.2.2.2) (by exact rfl))))
      pss_nil))), ?_⟩
    refine slots (start_NeedIn _ _) ?_
    by_cases hk : knownV r.s v = true
    · unfold refIn at q
      rw [if_pos hk] at q
      obtain ⟨z, rfl⟩ : ∃ z, v = .str z := by
        cases v <;> first | (cases hk; done) | exact ⟨_, rfl⟩
      refine B_meth (v_slot rfl) h.ins rfl (g_cons (v_slot rfl) g_nil) fun H1 e1 => ⟨r, _, rfl, h.mono e1, o, th.mono e1, ?_⟩
      unfold refKnown
      rw [if_pos hk]
      intro H2 e2
      have g := e1.trans e2
      have h2 := h.mono g
      show tIfS _ _ _ _ _ _
      refine S_when (b := !r.s.isIn z) (s_not (s_B (v_meth (v_slot rfl) h2.ins rfl (g_cons (v_slot rfl) g_nil) (sv_isin h2)))) (fun hb H3 e3 => ?_) fun hb H3 e3 => ?_
      · rw [Bool.not_eq_true'] at hb
        rw [show insideV r.s (.str z) = r.s.isIn z from rfl, if_neg (by rw [hb]; exact Bool.false_ne_true)] at q
        exact q H3 (g.trans e3)
      · rw [Bool.not_eq_false'] at hb
        rw [show insideV r.s (.str z) = r.s.isIn z from rfl, if_pos hb] at q
        exact q H3 (g.trans e3)
    · unfold refIn at q
      rw [if_neg hk] at q
      refine B_meth (v_slot rfl) h.ins rfl (g_cons (v_slot rfl) g_nil) fun H1 e1 => ⟨r, _, rfl, h.mono e1, o, th.mono e1, ?_⟩
      unfold refKnown
      rw [if_neg hk]
      exact fun H2 e2 => q H2 (e1.trans e2)

--CUT
theorem ok_CountPassed (T : Top K mg) (TB : Tabs T base) : FnOk P w K mg base CX0 1 T.f_CountPassed T.fd_CountPassed ["self", "place"] (spCount K T.ta_IsName) := by
  refine T.F_CountPassed.ok scCountPassed (fun vs H Q E h => ?_) (fun cdv A outer s H vs Q E hr h => ?_)
  · obtain ⟨r, m, rfl, h, hm, hn, q⟩ := h
    rfl
  · obtain ⟨r, m, rfl, h, hm, hn, q⟩ := h
    refine ⟨_, (pss_one (ps_for PassesOwn.never rfl (pi_range1 (by rfl) T.m_range (pa_cons (pv 1) pa_nil)) (pg_name (i := 2) scCountPassed.nd rfl (Or.inl rfl))
      (pss_cons (ps_asg (pe_ix ix_list (pe_fld (pv 0) rfl) (pv 2) (fun _ _ => rfl)) (pg_tup rfl (pgs_cons (pg_name (i := 3) scCountPassed.nd rfl (Or.inl rfl)) (pgs_cons (pg_name (i := 4) scCountPassed.nd rfl (Or.inl rfl)) (pgs_cons (pg_name (i := 5) scCountPassed.nd rfl (Or.inl rfl)) pgs_nil)))))
      (pss_one (ps_asg (pe_tup (pa_cons (pv 3) (pa_cons (pv 4) (pa_cons (pe_op op_add (pv 5) pe_int) pa_nil)))) (pg_sub (pe_fld (pv 0) rfl) (pv 2) set_list)))))), ?_⟩
    refine slots (start_CountPassed _ _) ?_
    refine S_for1 (n := (m : Int)) (g_cons (v_slot rfl) g_nil) (by omega) (fun j σ' H' => ∃ y2 y3 y4 y5, σ' = [some (.ref r.p), some (.int (m : Int)), y2, y3, y4, y5] ∧ Ch r.L H H' ∧ ({ r with s := { r.s with queue := passedTo r.s.queue j } } : Rm).At K T.ta_IsName H')
      (fun H1 e1 => ⟨_, _, _, _, rfl, .of e1, h.mono e1⟩) ?hs (fun σ' H' ⟨_, _, _, _, _, c, a⟩ => q H' c a)
    rintro j σ' H' hj ⟨y2, y3, y4, y5, rfl, c, a⟩
    have hj' : j < r.s.queue.length := by omega
    obtain ⟨xs, hx, tx⟩ := id a.line
    have lx := tx.length
    rw [show ({ r.s with queue := passedTo r.s.queue j } : Now).queue = passedTo r.s.queue j from rfl, passedTo_len] at lx
    obtain ⟨pt, hpt, ht⟩ := tx.get (r := r.s.queue[j]) j (by rw [passedTo_get]; exact List.getElem?_eq_getElem hj')
    walk_at "n"
    refine B_unp3 (x := .str r.s.queue[j].who) (y := .str r.s.queue[j].wish) (z := .int r.s.queue[j].often) rfl (v_op (v_at (v_slot rfl) a.ins T.cl_Room T.n_Room__line rfl) (v_slot rfl) (bi_ixL (SqL.of hx) (atI_nat hpt))) ht fun H1 e1 => ?_
    walk_at "n"
    have a1 := a.mono e1
    refine S_setIxU (u_tup (g_cons (v_slot rfl) (g_cons (v_slot rfl) (g_cons (v_op (v_slot rfl) v_con bi_0) g_nil))) (show 3 ≤ 100000 by decide)) (v_at (v_slot rfl) a1.ins T.cl_Room T.n_Room__line rfl) (v_slot rfl) (e1.lst hx) (by omega) fun pu H2 hpu e2 hu => ?_
    have a2 := a1.mono e2
    have tu : TupsAt H2 QE.vs (xs.set j (.ref pu)) (passedTo r.s.queue (j + 1)) := by
      have := ((tx.mono (e1.trans e2)).set (r := r.s.queue[j].bump) hu j)
      rw [show ({ r.s with queue := passedTo r.s.queue j } : Now).queue = passedTo r.s.queue j from rfl, passedTo_set (List.getElem?_eq_getElem hj')] at this
      exact this
    exact ⟨_, _, _, _, rfl, ((c.gr e1).gr e2).put (.inr (.inr (.inl rfl))), a2.setL tu⟩
theorem ok_GoOut (T : Top K mg) (TB : Tabs T base) : FnOk P w K mg base CX0 1 T.f_GoOut T.fd_GoOut ["self", "name"] (spGoOut K T.ta_IsName) := by
  refine T.F_GoOut.ok scGoOut (fun vs H Q E h => ?_) (fun cdv A outer s H vs Q E hr h => ?_)
  · obtain ⟨r, z, rfl, h, hz, q⟩ := h
    rfl
  · obtain ⟨r, z, rfl, h, hz, q⟩ := h
    refine ⟨_, (pss_cons (ps_if (pt_cmpR op_eq (pv 1) (pe_fld (pv 0) rfl) (nomark _))
      (pss_one (ps_fld (pv 0) pe_non rfl))
      pss_nil)
      (pss_one (ps_if (pt_cmpR op_eq (pv 1) (pe_fld (pv 0) rfl) (nomark _))
      (pss_one (ps_fld (pv 0) pe_non rfl))
      (pss_one (ps_ddel (pe_fld (pv 0) rfl) (pv 1)))))), ?_⟩
    refine slots (start_GoOut _ _) ?_
    have se : ∀ (o : Option Str), decide (V.str z = optV o) = decide (o = some z) := fun o => by
      rw [← optV_is]
      exact decide_eq_decide.mpr ⟨Eq.symm, Eq.symm⟩
    have sc : ∀ (o : Option Str), scal (.str z) (optV o) = true := fun o => by cases o <;> rfl
    -- behind the asker
    have key : ∀ (σ : L2.St) (H1 : Hp) (k : Option Str), σ = [some (.ref r.p), some (.str z)] → Ch r.L H H1 → ({ r with s := { r.s with asked := k } } : Rm).At K T.ta_IsName H1 → k = (if r.s.asked = some z then Option.none else r.s.asked) → tIfS (tTest (tOp rEq (tVar 1) (tFld K (tVar 0) "_writer"))) (sFld K (tVar 0) (tC .non) "_writer") (sDDel (tFld K (tVar 0) "_readers") (tVar 1)) ⟨fun _ H' => Q .non H', Q, fun _ _ => False, fun _ _ => False⟩ σ H1 := fun σ H1 k hσ c a hk => by
      subst hσ
      refine S_if (b := decide (r.s.alone = some z)) (Ts.is (s_test (v_op (v_slot rfl) (v_at (v_slot rfl) a.ins T.cl_Room T.n_Room__writer rfl) (bi_eq (sc _)))) (se _)) (fun hb H2 e2 => ?_) fun hb H2 e2 => ?_
      · have a2 := a.mono e2
        refine S_fld v_con (v_slot rfl) a2.ins T.cl_Room T.n_Room__writer (show 7 < 1000 by decide) fun H3 e3 => ?_
        rw [rfs_alone]
        have a3 := (a2.mono e3).setI none k
        refine q _ (((c.gr e2).gr e3).put (.inl rfl)) ?_
        have e : r.s.goOut z = { r.s with alone := none, asked := k } := by
          unfold Now.goOut
          rw [if_pos (of_decide_eq_true hb), if_pos (of_decide_eq_true hb), ← hk]
        rw [e]
        exact a3
      · have hw : z ∈ r.s.reading := by
          unfold Now.isIn at hz
          rw [hb, Bool.or_false] at hz
          exact of_decide_eq_true hz
        have a2 := a.mono e2
        refine S_ddel (v_at (v_slot rfl) a2.ins T.cl_Room T.n_Room__readers rfl) (v_slot rfl) a2.dict hw fun H3 e3 => ?_
        have a3 := (a2.mono e3).setR (r.s.reading.filter fun x => decide (x ≠ z))
        refine q _ (((c.gr e2).gr e3).put (.inr (.inl rfl))) ?_
        have e : r.s.goOut z = { r.s with asked := k, reading := r.s.reading.filter fun x => decide (x ≠ z) } := by
          unfold Now.goOut
          rw [if_neg (of_decide_eq_false hb), if_neg (of_decide_eq_false hb), ← hk]
        rw [e]
        exact a3
    refine B_when (b := decide (r.s.asked = some z)) (Ts.is (s_test (v_op (v_slot rfl) (v_at (v_slot rfl) h.ins T.cl_Room T.n_Room__asker rfl) (bi_eq (sc _)))) (se _)) (fun hb H1 e1 => ?_) fun hb H1 e1 => ?_
    · have h1 := h.mono e1
      refine S_fld v_con (v_slot rfl) h1.ins T.cl_Room T.n_Room__asker (show 7 < 1000 by decide) fun H2 e2 => ?_
      rw [rfs_asked]
      exact key _ _ none rfl (((Ch.of e1).gr e2).put (.inl rfl)) ((h1.mono e2).setI r.s.alone none) (by rw [if_pos (of_decide_eq_true hb)])
    · exact key _ _ r.s.asked rfl (.of e1) (h.mono e1) (by rw [if_neg (of_decide_eq_false hb)])
theorem ok_BeginAsked (T : Top K mg) (TB : Tabs T base) : FnOk P w K mg base CX0 2 T.f_BeginAsked T.fd_BeginAsked ["self"] (spBegAsked K T.ta_IsName) := by
  have GGoOut := ok_GoOut (P := P) (w := w) (base := base) T TB
  refine T.F_BeginAsked.ok scBeginAsked (fun vs H Q E h => ?_) (fun cdv A outer s H vs Q E hr h => ?_)
  · obtain ⟨r, rfl, h, o, hn, ha, q⟩ := h
    rfl
  · obtain ⟨r, rfl, h, o, hn, ha, q⟩ := h
    refine ⟨_, (pss_cons (ps_if (pt_cmpR op_gt (pe_callB call_lenD (by rfl) T.m_len PySem.boot_len (pa_cons (pe_fld (pv 0) rfl) pa_nil)) pe_int (nomark _))
      (pss_one (ps_ret pe_non))
      pss_nil)
      (pss_cons (ps_set (i := 1) scBeginAsked.nd rfl (Or.inl rfl) (pe_fld (pv 0) rfl))
      (pss_cons (ps_expr (pe_meth (pv 0) T.cl_Room T.M_GoOut GGoOut hr T.B_GoOut .nil pass0 (pa_cons (pv 1) pa_nil)))
      (pss_cons (ps_fld (pv 0) (pv 1) rfl)
      (pss_one (ps_ret (pe_tup (pa_cons (pv 1) (pa_cons (pe_glob (v := .str (Str.ofString "write")) rfl T.c_WRITE ⟨_, rfl⟩) pa_nil))))))))), ?_⟩
    refine slots (start_BeginAsked _) ?_
    obtain ⟨x, hx⟩ : ∃ x, r.s.asked = some x := by
      cases e : r.s.asked with
      | none => exact absurd e ha
      | some x => exact ⟨x, rfl⟩
    have mem := o.ka x hx
    have na : r.s.alone = none := by
      cases e : r.s.alone with
      | none => rfl
      | some y =>
        have := (o.ad y e).1
        rw [this] at mem
        cases mem
    have lr : (rdD r.s.reading).length = r.s.reading.length := List.length_map ..
    refine B_when (b := decide (1 < (r.s.reading.length : Int))) (Ts.is (s_test (v_op (v_lenD (v_at (v_slot rfl) h.ins T.cl_Room T.n_Room__readers rfl) h.dict) v_con bi_0)) (by rw [lr])) (fun hb H1 e1 => ?_) fun hb H1 e1 => ?_
    · have hb := of_decide_eq_true hb
      refine S_ret v_con fun H2 e2 => ?_
      have e : r.s.next r.seats r.pat = none := by
        unfold Now.next
        rw [hx]
        dsimp only
        rw [if_neg]
        intro z
        rw [z] at hb
        simp at hb
      unfold RBeg at q
      rw [e] at q
      exact q H2 (e1.trans e2)
    · have hb := of_decide_eq_false hb
      have er : r.s.reading = [x] := by
        match hl : r.s.reading, mem, hb with
        | [y], m, _ => rw [List.mem_singleton.mp m]
        | [], m, _ => cases m
        | _ :: _ :: _, _, b => exfalso; rw [List.length_cons, List.length_cons] at b; omega
      have e : r.s.next r.seats r.pat = some (-1) := by
        unfold Now.next
        rw [hx]
        dsimp only
        rw [if_pos er]
      unfold RBeg at q
      rw [e] at q
      have h1 := h.mono e1
      refine B_set (v_at (v_slot rfl) h1.ins T.cl_Room T.n_Room__asker rfl) fun H2 e2 => ?_
      have h2 := h1.mono e2
      rw [hx]
      walk_at "n"
      have hin : r.s.isIn x = true := by
        unfold Now.isIn
        rw [decide_eq_true mem, Bool.true_or]
      refine B_meth (v_slot rfl) h2.ins rfl (g_cons (v_slot rfl) g_nil) fun H3 e3 => ⟨r, x, rfl, h2.mono e3, hin, fun H4 c4 h4 => ?_⟩
      show tSeq _ _ _ _ _
      have eg : r.s.goOut x = { r.s with asked := none, reading := [] } := by
        unfold Now.goOut
        rw [if_pos hx, na, if_neg (fun z => by cases z), er, if_neg (fun z => by cases z)]
        simp [na]
      rw [eg] at h4
      refine B_fld (v_slot rfl) (v_slot rfl) h4.ins T.cl_Room T.n_Room__writer (show 7 < 1000 by decide) fun H5 e5 => ?_
      rw [rfs_alone]
      have h5 := (h4.mono e5).setI (some x) none
      have c5 : Ch r.L H (upd H5 r.p (.ins (He.ga K "Room") r.a.dx (rfs r.seats r.pat r.a (optV (some x)) (optV none)))) := (((((Ch.of e1).gr e2).gr e3).trans c4).gr e5).put (.inl rfl)
      refine tu_ret (u_tup (g_cons (v_slot rfl) (g_cons v_con g_nil)) (show 2 ≤ 100000 by decide)) fun t H6 ht e6 h6 => q H6 t (c5.gr e6) (c5.free ht) ?_ ?_
      · rw [h6, pr_ask hx]
        rfl
      · have eb : r.s.began (-1) = { r.s with alone := some x, asked := none, reading := [] } := by
          rw [began_ask, hx]
        rw [eb]
        exact RoomAt.mono e6 h5
theorem ok_BeginNext (T : Top K mg) (TB : Tabs T base) : FnOk P w K mg base CX0 3 T.f_BeginNext T.fd_BeginNext ["self"] (spBegin K T.ta_IsName) := by
  have GBeginAsked := ok_BeginAsked (P := P) (w := w) (base := base) T TB
  have GNextP := ok_NextP (P := P) (w := w) (base := base) T TB
  have GCountPassed := ok_CountPassed (P := P) (w := w) (base := base) T TB
  refine T.F_BeginNext.ok scBeginNext (fun vs H Q E h => ?_) (fun cdv A outer s H vs Q E hr h => ?_)
  · obtain ⟨r, rfl, h, o, hn, q⟩ := h
    rfl
  · obtain ⟨r, rfl, h, o, hn, q⟩ := h
    refine ⟨_, (pss_cons (ps_if (pt_cmpR op_notN (pe_fld (pv 0) rfl) pe_non (nomark _))
      (pss_one (ps_ret (pe_meth0 (pv 0) T.cl_Room T.M_BeginAsked GBeginAsked hr T.B_BeginAsked .nil pass0)))
      pss_nil)
      (pss_cons (ps_set (i := 1) scBeginNext.nd rfl (Or.inl rfl) (pe_cmpR op_notN (pe_fld (pv 0) rfl) pe_non (nomark _)))
      (pss_cons (ps_set (i := 2) scBeginNext.nd rfl (Or.inl rfl) (pe_call GNextP hr (by rfl) T.g_NextP T.F_NextP.kp T.B_NextP .nil pass0 (pa_cons (pe_fld (pv 0) rfl) (pa_cons (pe_fld (pv 0) rfl) (pa_cons (pe_fld (pv 0) rfl) (pa_cons (pe_callB call_lenD (by rfl) T.m_len PySem.boot_len (pa_cons (pe_fld (pv 0) rfl) pa_nil)) (pa_cons (pv 1) pa_nil)))))))
      (pss_cons (ps_if (pt_cmpR op_isN (pv 2) pe_non (nomark _))
      (pss_one (ps_ret pe_non))
      pss_nil)
      (pss_cons (ps_expr (pe_meth (pv 0) T.cl_Room T.M_CountPassed GCountPassed (hr.mono (by decide)) T.B_CountPassed .nil pass0 (pa_cons (pv 2) pa_nil)))
      (pss_cons (ps_asg (pe_bm PySem.F.plainAttrs_list PySem.F.slot_list_pop PySem.F.type_list_pop mt_popAt (pe_fld (pv 0) rfl) (pa_cons (pv 2) pa_nil)) (pg_tup rfl (pgs_cons (pg_name (i := 3) scBeginNext.nd rfl (Or.inl rfl)) (pgs_cons (pg_name (i := 4) scBeginNext.nd rfl (Or.inl rfl)) (pgs_cons (pg_name (i := 5) scBeginNext.nd rfl (Or.inl rfl)) pgs_nil)))))
      (pss_cons (ps_if (pt_cmpR op_eq (pv 4) (pe_glob (v := .str (Str.ofString "read")) rfl T.c_READ ⟨_, rfl⟩) (nomark _))
      (pss_one (ps_dput (hu_of hr) (pe_fld (pv 0) rfl) (pv 3) pe_bl rfl))
      (pss_one (ps_fld (pv 0) (pv 3) rfl)))
      (pss_one (ps_ret (pe_tup (pa_cons (pv 3) (pa_cons (pv 4) pa_nil)))))))))))), ?_⟩
    refine slots (start_BeginNext _) ?_
    refine B_when (b := decide (r.s.asked ≠ none)) (Ts.is (s_test (v_op (v_at (v_slot rfl) h.ins T.cl_Room T.n_Room__asker rfl) v_con bi_notN)) (by rw [optV_non]; cases r.s.asked <;> rfl)) (fun hb H1 e1 => ?_) fun hb H1 e1 => ?_
    · refine S_retM (v_slot rfl) (h.mono e1).ins rfl g_nil fun H2 e2 => ⟨r, rfl, (h.mono e1).mono e2, o, hn, of_decide_eq_true hb, ?_⟩
      unfold RBeg at q ⊢
      cases hx : r.s.next r.seats r.pat with
      | none => rw [hx] at q; exact q.mono (e1.trans e2)
      | some i => rw [hx] at q; exact fun H3 t c ht h3 a => q H3 t ((Ch.of (e1.trans e2)).trans c) ((e1.trans e2).free ht) h3 a
    have hk : r.s.asked = none := by
      cases e : r.s.asked with
      | none => rfl
      | some x => rw [e] at hb; cases hb
    have h1 := h.mono e1
    refine B_set (v_op (v_at (v_slot rfl) h1.ins T.cl_Room T.n_Room__writer rfl) v_con bi_notN) fun H2 e2 => ?_
    rw [show (!decide (optV r.s.alone = V.non)) = decide (r.s.alone ≠ none) by rw [optV_non]; cases r.s.alone <;> rfl]
    walk_at "n"
    have h2 := h1.mono e2
    obtain ⟨xs, hx, tx⟩ := id h2.line
    have lr : (rdD r.s.reading).length = r.s.reading.length := List.length_map ..
    have g2 := e1.trans e2
    refine B_set (v_call (z := natV (nextQ r.s.queue r.seats r.pat r.s.reading.length (decide (r.s.alone ≠ none)))) (g_cons (v_at (v_slot rfl) h2.ins T.cl_Room T.n_Room__line rfl) (g_cons (v_at (v_slot rfl) h2.ins T.cl_Room T.n_Room_seats rfl) (g_cons (v_at (v_slot rfl) h2.ins T.cl_Room T.n_Room_patience rfl) (g_cons (lr ▸ v_lenD (v_at (v_slot rfl) h2.ins T.cl_Room T.n_Room__readers rfl) h2.dict) (g_cons (v_slot rfl) g_nil))))) fun H3 Q3 E3 g3 k3 => ⟨_, xs, r.s.queue, r.seats, r.pat, _, _, rfl, g3.lst hx, tx.mono g3, k3⟩) fun H3 e3 => ?_
    walk_at "n"
    have h3 := h2.mono e3
    have g3 := g2.trans e3
    have nx := nextQ_is (seats := r.seats) (pat := r.pat) o hk
    unfold RBeg at q
    cases hq : nextQ r.s.queue r.seats r.pat r.s.reading.length (decide (r.s.alone ≠ none)) with
    | none =>
      rw [hq] at nx
      rw [← nx] at q
      refine B_when (b := true) (Ts.is (s_test (v_op (v_slot rfl) v_con bi_isN)) rfl) (fun _ H4 e4 => S_ret v_con fun H5 e5 => q H5 ((g3.trans e4).trans e5)) (fun z => nomatch z)
    | some m =>
      rw [hq] at nx
      rw [← nx] at q
      replace nx : r.s.next r.seats r.pat = some (m : Int) := nx.symm
      refine B_when (b := false) (Ts.is (s_test (v_op (v_slot rfl) v_con bi_isN)) rfl) (fun z => nomatch z) fun _ H4 e4 => ?_
      have h4 := h3.mono e4
      have g4 := g3.trans e4
      obtain ⟨m', e, em, he, _, hal, hw, _, _⟩ := (next_cases nx fun e he => (o.qn e he).2).resolve_left fun ⟨z, _⟩ => by omega
      obtain rfl : m = m' := by omega
      have hm := (List.getElem?_eq_some_iff.mp he).1
      have ql : r.s.queue.length ≤ 10000 := by unfold Now.people at hn; omega
      refine B_meth (v_slot rfl) h4.ins rfl (g_cons (v_slot rfl) g_nil) fun H5 e5 => ⟨r, m, rfl, h4.mono e5, hm, ql, fun H6 c6 h6 => ?_⟩
      show tSeq _ _ _ _ _
      have c6' : Ch r.L H H6 := ((Ch.of g4).gr e5).trans c6
      obtain ⟨ys, hy, ty⟩ := id h6.line
      obtain ⟨pt, hpt, ht⟩ := ty.get (r := e) m (by
        show (passedTo r.s.queue m)[m]? = _
        rw [passedTo_get]
        exact he)
      refine B_unpPop (x := .str e.who) (y := .str e.wish) (z := .int e.often) rfl (v_at (v_slot rfl) h6.ins T.cl_Room T.n_Room__line rfl) (v_slot rfl) hy hpt (by omega) ht fun H7 e7 => ?_
      walk_at "n"
      have t7 := (ty.mono e7).erase m
      rw [show ({ r.s with queue := passedTo r.s.queue m } : Now).queue = passedTo r.s.queue m from rfl, passedTo_erase hm] at t7
      have h7 := (h6.mono e7).setL t7
      have c7 : Ch r.L H (upd H7 r.a.ln (.lst (ys.eraseIdx m))) := (c6'.gr e7).put (.inr (.inr (.inl rfl)))
      have fin : ∀ {H8 : Hp} {σ : L2.St}, σ[3]? = some (some (.str e.who)) → σ[4]? = some (some (.str e.wish)) → Ch r.L H H8 → ({ r with s := r.s.began m } : Rm).At K T.ta_IsName H8 → tRet (tTup (tCons (tVar 3) (tCons (tVar 4) tNil))) ⟨fun _ H' => Q .non H', Q, fun _ _ => False, fun _ _ => False⟩ σ H8 := fun s3 s4 c8 h8 =>
        tu_ret (u_tup (g_cons (v_slot s3) (g_cons (v_slot s4) g_nil)) (show 2 ≤ 100000 by decide)) fun t H9 ht9 e9 h9 => q H9 t (c8.gr e9) (c8.free ht9) (by rw [h9, pr_at he]; rfl) (h8.mono e9)
      have eb := began_at he
      refine B_if (b := decide (e.wish = rd)) (Ts.is (s_test (v_op (v_slot rfl) v_con (bi_eq rfl))) (decide_eq_decide.mpr ⟨V.str.inj, congrArg V.str⟩)) (fun hb H8 e8 => ?_) fun hb H8 e8 => ?_
      · have hb := of_decide_eq_true hb
        rw [if_pos hb] at eb
        have h8 := RoomAt.mono e8 h7
        have nm : e.who ∉ r.s.reading := fun z => (List.nodup_append.mp o.nd).2.2 e.who z e.who (List.mem_map.mpr ⟨e, List.mem_of_getElem? he, rfl⟩) rfl
        refine S_dadd v_con (v_at (v_slot rfl) h8.ins T.cl_Room T.n_Room__readers rfl) (v_slot rfl) h8.dict nm (by unfold Now.people at hn; show r.s.reading.length ≤ 10000; omega) fun H9 e9 => ?_
        refine fin rfl rfl ((((c7.gr e8).gr e9)).put (.inr (.inl rfl))) ?_
        rw [eb]
        exact (h8.mono e9).setR (r.s.reading ++ [e.who])
      · have hb := of_decide_eq_false hb
        rw [if_neg hb] at eb
        have h8 := RoomAt.mono e8 h7
        refine S_fld (v_slot rfl) (v_slot rfl) h8.ins T.cl_Room T.n_Room__writer (show 7 < 1000 by decide) fun H9 e9 => ?_
        rw [rfs_alone]
        refine fin rfl rfl (((c7.gr e8).gr e9).put (.inl rfl)) ?_
        rw [eb]
        exact (h8.mono e9).setI (some e.who) r.s.asked

--CUT
theorem ok_Settle (T : Top K mg) (TB : Tabs T base) : FnOk P w K mg base CX0 4 T.f_Settle T.fd_Settle ["self", "row"] (spSettle K T.ta_IsName) := by
  have GBeginNext := ok_BeginNext (P := P) (w := w) (base := base) T TB
  refine T.F_Settle.ok scSettle (fun vs H Q E h => ?_) (fun cdv A outer s H vs Q E hr h => ?_)
  · obtain ⟨r, t, row, rfl, h, o, hn, hb, ht, q⟩ := h
    rfl
  · obtain ⟨r, t, row, rfl, h, o, hn, hb, ht, q⟩ := h
    refine ⟨_, (pss_cons (ps_expr (pe_bm PySem.F.plainAttrs_list PySem.F.slot_list_append PySem.F.type_list_append mt_append (pe_fld (pv 0) rfl) (pa_cons (pv 1) pa_nil)))
      (pss_cons (ps_set (i := 2) scSettle.nd rfl (Or.inl rfl) (pe_lst pa_nil))
      (pss_cons (ps_set (i := 3) scSettle.nd rfl (Or.inl rfl) (pe_meth0 (pv 0) T.cl_Room T.M_BeginNext GBeginNext hr T.B_BeginNext .nil pass0))
      (pss_cons (ps_while PassesOwn.never (pt_cmpR op_notN (pv 3) pe_non (nomark _))
      (pss_cons (ps_asg (pv 3) (pg_tup rfl (pgs_cons (pg_name (i := 4) scSettle.nd rfl (Or.inl rfl)) (pgs_cons (pg_name (i := 5) scSettle.nd rfl (Or.inl rfl)) pgs_nil))))
      (pss_cons (ps_expr (pe_bm PySem.F.plainAttrs_list PySem.F.slot_list_append PySem.F.type_list_append mt_append (pe_fld (pv 0) rfl) (pa_cons (pe_tup (pa_cons (pe_glob (v := .str (Str.ofString "begins")) rfl T.c_BEGINS ⟨_, rfl⟩) (pa_cons (pv 4) (pa_cons (pv 5) pa_nil)))) pa_nil)))
      (pss_cons (ps_expr (pe_bm PySem.F.plainAttrs_list PySem.F.slot_list_append PySem.F.type_list_append mt_append (pv 2) (pa_cons (pv 3) pa_nil)))
      (pss_one (ps_set (i := 3) scSettle.nd rfl (Or.inl rfl) (pe_meth0 (pv 0) T.cl_Room T.M_BeginNext GBeginNext hr T.B_BeginNext .nil pass0)))))))
      (pss_one (ps_ret (pv 2))))))), ?_⟩
    refine slots (start_Settle _ _) ?_
    obtain ⟨ys, hy, ty⟩ := id h.book
    have ly := ty.length
    refine B_app hy (v_at (v_slot rfl) h.ins T.cl_Room T.n_Room__rows rfl) (v_slot rfl) (by omega) fun H1 e1 => ?_
    have h1 := (h.mono e1).setB ((ty.mono e1).snoc (r := row) (e1.tup ht))
    have c1 : Ch r.L H (upd H1 r.a.rw (.lst (ys ++ [.ref t]))) := (Ch.of e1).put (.inr (.inr (.inr rfl)))
    generalize upd H1 r.a.rw (.lst (ys ++ [.ref t])) = H2 at h1 c1 ⊢
    refine B_setL (l_lst g_nil (show 0 ≤ 100000 by decide)) fun l H3 hl e3 h3 => ?_
    walk_at "n"
    have nl : H l = none := c1.free hl
    have nrw : l ≠ r.a.rw := fun z => by rw [z, hy] at nl; cases nl
    -- what stands in a turn: those who began, the state
    let Inv : List (Str × Str) → Now → Hp → Prop := fun pr s1 H' => Ch r.L H H' ∧ (∃ xs, H' l = some (.lst xs) ∧ TupsAt H' P2.vs xs pr) ∧ ({ r with s := s1, rows := r.rows ++ row :: pr.map begRow } : Rm).At K T.ta_IsName H' ∧ s1.ok ∧ s1.people ≤ 10000
    let Wv : Nat → V → Hp → Prop := fun m v H' => (v = .non ∧ ∃ pr s1, Inv pr s1 H' ∧ Settles r.seats r.pat r.s pr s1) ∨
      ∃ u k pr s1, v = .ref u ∧ m = s1.left + 1 ∧ H' u = some (.tup (P2.vs k)) ∧ Inv pr s1 H' ∧ r.rows.length + pr.length + 1 + s1.left ≤ 50000 ∧ ∀ l' s', Settles r.seats r.pat s1 l' s' → Settles r.seats r.pat r.s (pr ++ k :: l') s'
    have beg : ∀ (Q' : VK) (E' : XK) (H' : Hp) (pr : List (Str × Str)) (s1 : Now), Inv pr s1 H' → r.rows.length + pr.length + s1.left ≤ 50000 → (∀ l' s', Settles r.seats r.pat s1 l' s' → Settles r.seats r.pat r.s (pr ++ l') s') → (∀ m v H'', m < s1.left + 1 → Wv m v H'' → Q' v H'') → spBegin K T.ta_IsName [.ref r.p] H' Q' E' := by
      rintro Q' E' H' pr s1 ⟨c, ⟨xs, hx, tx⟩, a, o1, n1⟩ hb1 hs hq
      refine ⟨{ r with s := s1, rows := r.rows ++ row :: pr.map begRow }, rfl, a, o1, n1, ?_⟩
      unfold RBeg
      dsimp only
      cases nx : s1.next r.seats r.pat with
      | none =>
        intro H'' e
        refine hq 0 .non H'' (Nat.succ_pos _) (.inl ⟨rfl, pr, s1, ⟨c.gr e, ⟨xs, e.lst hx, tx.mono e⟩, RoomAt.mono e a, o1, n1⟩, ?_⟩)
        have := hs [] s1 (.stop nx)
        rw [List.append_nil] at this
        exact this
      | some i =>
        intro H'' u c'' hu hut a''
        have lf := Now.began_left o1 nx
        have nl' : ¬ r.L l := h.out nl
        have nt : ∀ b, r.L b → ∀ ts, H' b ≠ some (.tup ts) := fun b hb ts => RoomAt.noTup a b hb ts
        refine hq ((s1.began i).left + 1) (.ref u) H'' (by omega) (.inr ⟨u, s1.pr i, pr, s1.began i, rfl, rfl, hut, ⟨c.trans c'', ⟨xs, c''.lst hx nl', tx.ch c'' nt⟩, a'', o1.began nx, by rw [Now.began_people o1 nx]; exact n1⟩, by omega, fun l' s' k => hs _ _ (.step nx k)⟩)
    have h3' := h1.mono e3
    refine B_setM (v_slot rfl) h3'.ins rfl g_nil fun H4 e4 => beg _ _ H4 [] r.s ⟨(c1.gr e3).gr e4, ⟨[], e4.lst h3, .nil⟩, RoomAt.mono e4 h3', o, hn⟩ (by rw [List.length_nil]; omega) (fun l' s' k => k) fun m v H5 _ w5 => ?_
    walk_at "n"
    refine B_while (fun m σ' H' => ∃ v y4 y5, σ' = [some (.ref r.p), some (.ref t), some (.ref l), some v, y4, y5] ∧ Wv m v H') m ⟨v, _, _, rfl, w5⟩ ?_
    rintro m2 σ' H6 ⟨v2, y4, y5, rfl, w6⟩
    rcases w6 with ⟨rfl, pr, s1, ⟨c, ⟨xs, hx, tx⟩, a, o1, n1⟩, st⟩ | ⟨u, k, pr, s1, rfl, rfl, hu, ⟨c, ⟨xs, hx, tx⟩, a, o1, n1⟩, hb1, hs⟩
    · refine ⟨false, Ts.is (s_test (v_op (v_slot rfl) v_con bi_notN)) rfl, (fun z => nomatch z), fun _ H7 e7 => ?_⟩
      exact S_ret (v_slot rfl) fun H8 e8 => q H8 l xs pr s1 ((c.gr e7).gr e8) nl ((e7.trans e8).lst hx) (tx.mono (e7.trans e8)) st (RoomAt.mono (e7.trans e8) a)
    · refine ⟨true, Ts.is (s_test (v_op (v_slot rfl) v_con bi_notN)) rfl, (fun _ H7 e7 => ?_), fun z => nomatch z⟩
      refine ⟨fun σ' H' => ∃ m', m' < s1.left + 1 ∧ ∃ v y4 y5, σ' = [some (.ref r.p), some (.ref t), some (.ref l), some v, y4, y5] ∧ Wv m' v H', fun σ2 H2 z => z, ?_⟩
      refine B_unp2 rfl (v_slot rfl) (e7.tup hu) fun H8 e8 => ?_
      walk_at "n"
      have g8 := e7.trans e8
      have a8 := RoomAt.mono g8 a
      obtain ⟨zs, hz, tz⟩ := id a8.book
      have lz := tz.length
      rw [show ({ r with s := s1, rows := r.rows ++ row :: pr.map begRow } : Rm).rows = r.rows ++ row :: pr.map begRow from rfl, List.length_append, List.length_cons, List.length_map] at lz
      refine B_appU hz (v_at (v_slot rfl) a8.ins T.cl_Room T.n_Room__rows rfl) (u_tup (g_cons v_con (g_cons (v_slot rfl) (g_cons (v_slot rfl) g_nil))) (show 3 ≤ 100000 by decide)) (by omega) fun pu H9 hpu e9 h9 => ?_
      have g9 := g8.trans e9
      have a9 := (RoomAt.mono e9 a8).setB ((tz.mono e9).snoc (r := begRow k) h9)
      have er : (r.rows ++ row :: pr.map begRow) ++ [begRow k] = r.rows ++ row :: (pr ++ [k]).map begRow := by
        rw [List.map_append, List.append_assoc]
        rfl
      rw [show ({ r with s := s1, rows := r.rows ++ row :: pr.map begRow } : Rm).rows = r.rows ++ row :: pr.map begRow from rfl, er] at a9
      have c9 : Ch r.L H (upd H9 r.a.rw (.lst (zs ++ [.ref pu]))) := (c.gr g9).put (.inr (.inr (.inr rfl)))
      have hx9 : (upd H9 r.a.rw (.lst (zs ++ [.ref pu]))) l = some (.lst xs) := (upd_ne nrw).trans (g9.lst hx)
      have rw9 : H9 r.a.rw = some (.lst zs) := e9.lst hz
      have tx9 : TupsAt (upd H9 r.a.rw (.lst (zs ++ [.ref pu]))) P2.vs xs pr := (tx.mono g9).chg fun ts z => by rw [rw9] at z; cases z
      have hu9 : (upd H9 r.a.rw (.lst (zs ++ [.ref pu]))) u = some (.tup (P2.vs k)) := (upd_ne fun z => by have := g9.tup hu; rw [z, rw9] at this; cases this).trans (g9.tup hu)
      generalize upd H9 r.a.rw (.lst (zs ++ [.ref pu])) = H10 at a9 c9 hx9 tx9 hu9 ⊢
      have lx := tx9.length
      refine B_app hx9 (v_slot rfl) (v_slot rfl) (by omega) fun H11 e11 => ?_
      have nLl : ¬ r.L l := h.out nl
      have a12 : ({ r with s := s1, rows := r.rows ++ row :: (pr ++ [k]).map begRow } : Rm).At K T.ta_IsName (upd H11 l (.lst (xs ++ [.ref u]))) := by
        have b := RoomAt.mono e11 a9
        obtain ⟨x1, hx1, tx1⟩ := b.line
        obtain ⟨x2, hx2, tx2⟩ := b.book
        have nt : ∀ ts, H11 l ≠ some (.tup ts) := fun ts z => by rw [e11.lst hx9] at z; cases z
        have ne : ∀ b, r.L b → b ≠ l := fun b hb z => nLl (z ▸ hb)
        obtain ⟨ps, hps, tps⟩ := b.tab
        exact ⟨(upd_ne (ne _ (.inl rfl))).trans b.ins, (upd_ne (ne _ (.inr (.inl rfl)))).trans b.dict, ⟨x1, (upd_ne (ne _ (.inr (.inr (.inl rfl))))).trans hx1, tx1.chg nt⟩, ⟨x2, (upd_ne (ne _ (.inr (.inr (.inr rfl))))).trans hx2, tx2.chg nt⟩, b.ne, ⟨ps, (upd_ne fun z => by rw [z, e11.lst hx9] at hps; cases hps).trans hps, tps⟩⟩
      have t12 : TupsAt (upd H11 l (.lst (xs ++ [.ref u]))) P2.vs (xs ++ [.ref u]) (pr ++ [k]) := ((tx9.mono e11).chg fun ts z => by rw [e11.lst hx9] at z; cases z).snoc ((upd_ne fun z => by have := e11.tup hu9; rw [z, e11.lst hx9] at this; cases this).trans (e11.tup hu9))
      refine S_setM (v_slot rfl) a12.ins rfl g_nil fun H13 e13 => beg _ _ H13 (pr ++ [k]) s1 ⟨((c9.gr e11).chg nl).gr e13, ⟨_, e13.lst upd_same, t12.mono e13⟩, RoomAt.mono e13 a12, o1, n1⟩ (by rw [List.length_append, List.length_singleton]; omega) (fun l' s' kk => ?_) fun m3 v3 H14 hm3 w14 => ?_
      · have := hs l' s' kk
        rw [List.append_assoc]
        exact this
      · exact ⟨m3, hm3, v3, _, _, rfl, w14⟩

--CUT
theorem ok_Come (T : Top K mg) (TB : Tabs T base) : FnOk P w K mg base (L2N.CX P w) 5 T.f_Come T.fd_Come ["self", "name", "wish"] (spCome K T.ta_IsName) := by
  have GIsName := ok_IsName (P := P) (w := w) (base := base) T TB
  have GIsWish := ok_IsWish (P := P) (w := w) (base := base) T TB
  have GIsKnown := ok_IsKnown (P := P) (w := w) (base := base) T TB
  have GSettle := ok_Settle (P := P) (w := w) (base := base) T TB
  refine RX.okN T.F_Come scCome (fun vs H Q E h => ?_) (fun cdv A outer s H vs Q E hr h => ?_)
  · obtain ⟨r, n, v, w, rfl, h, ⟨o, lim, hn⟩, tv, tw, q⟩ := h
    rfl
  · obtain ⟨r, n, v, w, rfl, h, ⟨o, lim, hn⟩, tv, tw, q⟩ := h
    refine ⟨_, (pss_cons (ps_if (pt_not (pt_val (pe_call GIsName (hr.mono (by decide)) (by rfl) T.g_IsName T.F_IsName.kp T.B_IsName .nil pass0 (pa_cons (pv 1) pa_nil))))
      (pss_one (L2N.ps_raise rfl (L2N.takes_of rfl rfl rfl rfl) (L2N.pmk_own PySem.F.excBase_ValueError T.xx_BadName.1 T.gc_BadName T.xx_BadName.2.1 (raises_own T.xx_BadName.2.2.1 T.xx_BadName.2.2.2) (by exact rfl))))
      pss_nil)
      (pss_cons (ps_if (pt_not (pt_val (pe_call GIsWish (hr.mono (by decide)) (by rfl) T.g_IsWish T.F_IsWish.kp T.B_IsWish .nil pass0 (pa_cons (pv 2) pa_nil))))
      (pss_one (L2N.ps_raise rfl (L2N.takes_of rfl rfl rfl rfl) (L2N.pmk_own PySem.F.excBase_ValueError T.xx_BadWish.1 T.gc_BadWish T.xx_BadWish.2.1 (raises_own T.xx_BadWish.2.2.1 T.xx_BadWish.2.2.2) (by exact rfl))))
      pss_nil)
      (pss_cons (ps_if (pt_val (pe_meth (pv 0) T.cl_Room T.M_IsKnown GIsKnown (hr.mono (by decide)) T.B_IsKnown .nil pass0 (pa_cons (pv 1) pa_nil)))
      (pss_one (L2N.ps_raise rfl (L2N.takes_of rfl rfl rfl rfl) (L2N.pmk_own PySem.F.excBase_ValueError T.xx_Known.1 T.gc_Known T.xx_Known.2.1 (raises_own T.xx_Known.2.2.1 T.xx_Known.2.2.2) (by exact rfl))))
      pss_nil)
      (pss_cons (ps_expr (pe_bm PySem.F.plainAttrs_list PySem.F.slot_list_append PySem.F.type_list_append mt_append (pe_fld (pv 0) rfl) (pa_cons (pe_tup (pa_cons (pv 1) (pa_cons (pv 2) (pa_cons pe_int pa_nil)))) pa_nil)))
      (pss_one (ps_ret (pe_meth (pv 0) T.cl_Room T.M_Settle GSettle hr T.B_Settle .nil pass0 (pa_cons (pe_tup (pa_cons (pe_glob (v := .str (Str.ofString "came")) rfl T.c_CAME ⟨_, rfl⟩) (pa_cons (pv 1) (pa_cons (pv 2) pa_nil)))) pa_nil)))))))), ?_⟩
    refine slots (start_Come _ _ _) ?_
    unfold refCome at q
    refine B_when (b := !nameV v) (s_not (s_B (v_call (g_cons (v_slot rfl) g_nil) (sv_name h.tab tv)))) (fun hb H1 e1 => ?_) fun hb H1 e1 => ?_
    · rw [Bool.not_eq_true'] at hb
      rw [if_neg (by rw [hb]; exact Bool.false_ne_true)] at q
      exact q H1 e1
    rw [Bool.not_eq_false'] at hb
    rw [if_pos hb] at q
    have h1 := h.mono e1
    refine B_when (b := !wishV w) (s_not (s_B (v_call (g_cons (v_slot rfl) g_nil) (sv_wishv h1.tab (tw.mono e1))))) (fun hb2 H2 e2 => ?_) fun hb2 H2 e2 => ?_
    · rw [Bool.not_eq_true'] at hb2
      rw [if_neg (by rw [hb2]; exact Bool.false_ne_true)] at q
      exact q H2 (e1.trans e2)
    rw [Bool.not_eq_false'] at hb2
    rw [if_pos hb2] at q
    have h2 := h1.mono e2
    have g2 := e1.trans e2
    refine B_when (b := knownV r.s v) (s_B (v_meth (v_slot rfl) h2.ins rfl (g_cons (v_slot rfl) g_nil) (sv_isknown h2 o (tv.mono g2)))) (fun hb3 H3 e3 => ?_) fun hb3 H3 e3 => ?_
    · rw [if_pos hb3] at q
      exact q H3 (g2.trans e3)
    rw [if_neg (by rw [hb3]; exact Bool.false_ne_true)] at q
    obtain ⟨z, rfl⟩ : ∃ z, v = .str z := by
      cases v <;> first | (cases hb; done) | exact ⟨_, rfl⟩
    obtain ⟨x, rfl⟩ : ∃ x, w = .str x := by
      cases w <;> first | (cases hb2; done) | exact ⟨_, rfl⟩
    have g3 := g2.trans e3
    have h3 := h2.mono e3
    obtain ⟨xs, hx, tx⟩ := id h3.line
    have lx := tx.length
    have hp := lim.ppl
    have hbk := lim.book
    refine B_appU hx (v_at (v_slot rfl) h3.ins T.cl_Room T.n_Room__line rfl) (u_tup (g_cons (v_slot rfl) (g_cons (v_slot rfl) (g_cons v_con g_nil))) (show 3 ≤ 100000 by decide)) (by unfold Now.people at hp; omega) fun pt H4 hpt e4 h4 => ?_
    have h5 := (h3.mono e4).setL ((tx.mono e4).snoc (r := (⟨z, x, 0⟩ : QE)) h4)
    have c5 : Ch r.L H (upd H4 r.a.ln (.lst (xs ++ [.ref pt]))) := ((Ch.of g3).gr e4).put (.inr (.inr (.inl rfl)))
    rw [← done_came (s := r.s)] at h5
    generalize upd H4 r.a.ln (.lst (xs ++ [.ref pt])) = H5 at h5 c5 ⊢
    have gd : Deed.good ⟨wCame, z, x⟩ := ⟨.inl rfl, hb, by
      have hb2' : (decide (x = rd) || decide (x = wr)) = true := hb2
      simp only [Bool.or_eq_true, decide_eq_true_eq] at hb2'
      exact hb2'⟩
    have rf : r.s.refused ⟨wCame, z, x⟩ = false := by
      rw [refused_came]
      exact hb3
    obtain ⟨d1, d2⟩ := Now.done_sizes o gd rf
    refine S_retMU (v_slot rfl) h5.ins rfl (u_tup (g_cons v_con (g_cons (v_slot rfl) (g_cons (v_slot rfl) g_nil))) (show 3 ≤ 100000 by decide)) fun pr H6 hpr e6 h6 => ⟨{ r with s := r.s.done ⟨wCame, z, x⟩ }, pr, [wCame, z, x], rfl, RoomAt.mono e6 h5, o.done gd rf, ?_, ?_, h6, fun H7 l ys p s' c7 hl hl7 t7 st a7 => q z x rfl rfl H7 l ys p s' ((c5.gr e6).trans c7) ((c5.gr e6).free hl) hl7 t7 st a7⟩
    · show (r.s.done ⟨wCame, z, x⟩).people ≤ 10000
      omega
    · show r.rows.length + (r.s.done ⟨wCame, z, x⟩).left ≤ 50000
      omega
theorem ok_Leave (T : Top K mg) (TB : Tabs T base) : FnOk P w K mg base (L2N.CX P w) 5 T.f_Leave T.fd_Leave ["self", "name"] (spOne K T.ta_IsName refKnown wLeft) := by
  have GNeedKnown := ok_NeedKnown (P := P) (w := w) (base := base) T TB
  have GIsIn := ok_IsIn (P := P) (w := w) (base := base) T TB
  have GGoOut := ok_GoOut (P := P) (w := w) (base := base) T TB
  have GPlaceM := ok_PlaceM (P := P) (w := w) (base := base) T TB
  have GSettle := ok_Settle (P := P) (w := w) (base := base) T TB
  refine RX.okN T.F_Leave scLeave (fun vs H Q E h => ?_) (fun cdv A outer s H vs Q E hr h => ?_)
  · obtain ⟨r, n, v, rfl, h, ⟨o, lim, hn⟩, tv, q⟩ := h
    rfl
  · obtain ⟨r, n, v, rfl, h, ⟨o, lim, hn⟩, tv, q⟩ := h
    refine ⟨_, (pss_cons (ps_expr (pe_meth (pv 0) T.cl_Room T.M_NeedKnown GNeedKnown (hr.mono (by decide)) T.B_NeedKnown .nil (RX.passD (L2N.takes_of rfl rfl rfl rfl)) (pa_cons (pv 1) pa_nil)))
      (pss_cons (ps_if (pt_val (pe_meth (pv 0) T.cl_Room T.M_IsIn GIsIn (hr.mono (by decide)) T.B_IsIn .nil pass0 (pa_cons (pv 1) pa_nil)))
      (pss_one (ps_expr (pe_meth (pv 0) T.cl_Room T.M_GoOut GGoOut (hr.mono (by decide)) T.B_GoOut .nil pass0 (pa_cons (pv 1) pa_nil))))
      (pss_one (ps_delL (pe_fld (pv 0) rfl) (pe_meth (pv 0) T.cl_Room T.M_PlaceM GPlaceM (hr.mono (by decide)) T.B_PlaceM .nil pass0 (pa_cons (pv 1) pa_nil)))))
      (pss_one (ps_ret (pe_meth (pv 0) T.cl_Room T.M_Settle GSettle hr T.B_Settle .nil pass0 (pa_cons (pe_tup (pa_cons (pe_glob (v := .str (Str.ofString "left")) rfl T.c_LEFT ⟨_, rfl⟩) (pa_cons (pv 1) pa_nil))) pa_nil)))))), ?_⟩
    refine slots (start_Leave _ _) ?_
    unfold refKnown at q
    by_cases hk : knownV r.s v = true
    rotate_left
    · rw [if_neg hk] at q
      refine B_meth (v_slot rfl) h.ins rfl (g_cons (v_slot rfl) g_nil) fun H1 e1 => ⟨r, _, rfl, h.mono e1, o, tv.mono e1, ?_⟩
      unfold refKnown
      rw [if_neg hk]
      exact fun H2 e2 => q H2 (e1.trans e2)
    rw [if_pos hk] at q
    obtain ⟨z, rfl⟩ : ∃ z, v = .str z := by
      cases v <;> first | (cases hk; done) | exact ⟨_, rfl⟩
    have hk' : r.s.known z = true := hk
    refine B_meth (v_slot rfl) h.ins rfl (g_cons (v_slot rfl) g_nil) fun H1 e1 => ⟨r, _, rfl, h.mono e1, o, tv.mono e1, ?_⟩
    unfold refKnown
    rw [if_pos hk]
    intro H2 e2
    show tSeq _ _ _ _ _
    have g2 := e1.trans e2
    have h2 := h.mono g2
    have hp := lim.ppl
    have hbk := lim.book
    have gd : Deed.good ⟨wLeft, z, rd⟩ := ⟨.inr (.inl rfl), o.named hk', .inl rfl⟩
    have rf : r.s.refused ⟨wLeft, z, rd⟩ = false := by
      rw [refused_left, hk']
      rfl
    obtain ⟨d1, d2⟩ := Now.done_sizes o gd rf
    have fin : ∀ {σ : L2.St} {H5 : Hp}, σ[0]? = some (some (.ref r.p)) → σ[1]? = some (some (.str z)) → Ch r.L H H5 → ({ r with s := r.s.done ⟨wLeft, z, rd⟩ } : Rm).At K T.ta_IsName H5 → ∀ {D : Ends}, D.rt = Q → tRet (tMeth (He.ga K "Room") "_settle" (spSettle K T.ta_IsName) [] E0 (tVar 0) (tCons (tTup (tCons (tC (.str (Str.ofString "left"))) (tCons (tVar 1) tNil))) tNil)) D σ H5 := fun s0 s1 c5 h5 D hD =>
      S_retMU (v_slot s0) h5.ins rfl (u_tup (g_cons v_con (g_cons (v_slot s1) g_nil)) (show 2 ≤ 100000 by decide)) fun pr H6 hpr e6 h6 => ⟨{ r with s := r.s.done ⟨wLeft, z, rd⟩ }, pr, [wLeft, z], rfl, RoomAt.mono e6 h5, o.done gd rf, by show (r.s.done ⟨wLeft, z, rd⟩).people ≤ 10000; omega, by show r.rows.length + (r.s.done ⟨wLeft, z, rd⟩).left ≤ 50000; omega, h6, fun H7 l ys p s' c7 hl hl7 t7 st a7 => by rw [hD]; exact q z rfl H7 l ys p s' ((c5.gr e6).trans c7) ((c5.gr e6).free hl) hl7 t7 st a7⟩
    refine B_if (b := r.s.isIn z) (s_B (v_meth (v_slot rfl) h2.ins rfl (g_cons (v_slot rfl) g_nil) (sv_isin h2))) (fun hb H3 e3 => ?_) fun hb H3 e3 => ?_
    · refine meth (v_slot rfl) (h2.mono e3).ins rfl (g_cons (v_slot rfl) g_nil) fun H4 e4 => ⟨r, z, rfl, (h2.mono e3).mono e4, hb, fun H5 c5 h5 => ?_⟩
      refine fin rfl rfl ((((Ch.of g2).gr e3).gr e4).trans c5) ?_ rfl
      have es : r.s.goOut z = r.s.done ⟨wLeft, z, rd⟩ := by
        rw [done_left]
        unfold Now.goOut
        have nq : z ∉ r.s.queue.map QE.who := by
          unfold Now.isIn at hb
          simp only [Bool.or_eq_true, decide_eq_true_eq] at hb
          rcases hb with hb | hb
          · exact o.apart hb
          · exact (o.ad z hb).2
        rw [filter_outQ nq]
        by_cases ha : r.s.alone = some z
        · rw [if_pos ha, if_pos ha, (o.ad z ha).1]
          rfl
        · rw [if_neg ha, if_neg ha]
      rw [← es]
      exact h5
    · have nr : z ∉ r.s.reading ∧ ¬ r.s.alone = some z := by
        unfold Now.isIn at hb
        simpa only [Bool.or_eq_false_iff, decide_eq_false_iff_not] using hb
      have mq : z ∈ r.s.queue.map QE.who := by
        unfold Now.known at hk'
        simp only [Bool.or_eq_true, decide_eq_true_eq] at hk'
        exact (hk'.resolve_left nr.1).resolve_left nr.2
      obtain ⟨j, hj⟩ : ∃ j, findAt z r.s.queue 0 = some j := by
        have := findAt_mem (z := z) (l := r.s.queue) (k := 0)
        rw [decide_eq_true mq] at this
        exact Option.isSome_iff_exists.mp this
      obtain ⟨j', e, ej, he, hw⟩ := findAt_some hj
      obtain rfl : j = j' := by omega
      have h3 := h2.mono e3
      obtain ⟨xs, hx, tx⟩ := id h3.line
      have lx := tx.length
      have hjl := (List.getElem?_eq_some_iff.mp he).1
      refine S_delL (v_at (v_slot rfl) h3.ins T.cl_Room T.n_Room__line rfl) (Vl.is (v_meth (v_slot rfl) h3.ins rfl (g_cons (v_slot rfl) g_nil) (sv_place h3)) (by rw [hj]; rfl)) hx (by omega) (by unfold Now.people at hp; omega) fun H4 e4 => ?_
      have h5 := (h3.mono e4).setL ((tx.mono e4).erase j)
      refine fin rfl rfl ((((Ch.of g2).gr e3).gr e4).put (.inr (.inr (.inl rfl)))) ?_ rfl
      have es : ({ r.s with queue := r.s.queue.eraseIdx j } : Now) = r.s.done ⟨wLeft, z, rd⟩ := by
        rw [done_left, erase_filter o.qnd he, hw, filter_out nr.1, if_neg nr.2, if_neg]
        exact fun k => nr.1 (o.ka z k)
      rw [← es]
      exact h5
theorem ok_Ask (T : Top K mg) (TB : Tabs T base) : FnOk P w K mg base (L2N.CX P w) 5 T.f_Ask T.fd_Ask ["self", "name"] (spOne K T.ta_IsName refAsk wAsked) := by
  have GNeedIn := ok_NeedIn (P := P) (w := w) (base := base) T TB
  have GSettle := ok_Settle (P := P) (w := w) (base := base) T TB
  refine RX.okN T.F_Ask scAsk (fun vs H Q E h => ?_) (fun cdv A outer s H vs Q E hr h => ?_)
  · obtain ⟨r, n, v, rfl, h, ⟨o, lim, hn⟩, tv, q⟩ := h
    rfl
  · obtain ⟨r, n, v, rfl, h, ⟨o, lim, hn⟩, tv, q⟩ := h
    refine ⟨_, (pss_cons (ps_expr (pe_meth (pv 0) T.cl_Room T.M_NeedIn GNeedIn hr T.B_NeedIn .nil (RX.passD (L2N.takes_of rfl rfl rfl rfl)) (pa_cons (pv 1) pa_nil)))
      (pss_cons (ps_if (pt_cmpR op_eq (pv 1) (pe_fld (pv 0) rfl) (nomark _))
      (pss_one (L2N.ps_raise rfl (L2N.takes_of rfl rfl rfl rfl) (L2N.pmk_own PySem.F.excBase_ValueError T.xx_Writes.1 T.gc_Writes T.xx_Writes.2.1 (raises_own T.xx_Writes.2.2.1 T.xx_Writes.2.2.2) (by exact rfl))))
      pss_nil)
      (pss_cons (ps_if (pt_cmpR op_notN (pe_fld (pv 0) rfl) pe_non (nomark _))
      (pss_one (L2N.ps_raise rfl (L2N.takes_of rfl rfl rfl rfl) (L2N.pmk_own PySem.F.excBase_ValueError T.xx_Asked.1 T.gc_Asked T.xx_Asked.2.1 (raises_own T.xx_Asked.2.2.1 T.xx_Asked.2.2.2) (by exact rfl))))
      pss_nil)
      (pss_cons (ps_fld (pv 0) (pv 1) rfl)
      (pss_one (ps_ret (pe_meth (pv 0) T.cl_Room T.M_Settle GSettle hr T.B_Settle .nil pass0 (pa_cons (pe_tup (pa_cons (pe_glob (v := .str (Str.ofString "asked")) rfl T.c_ASKED ⟨_, rfl⟩) (pa_cons (pv 1) pa_nil))) pa_nil)))))))), ?_⟩
    refine slots (start_Ask _ _) ?_
    unfold refAsk at q
    refine B_meth (v_slot rfl) h.ins rfl (g_cons (v_slot rfl) g_nil) fun H1 e1 => ⟨r, _, rfl, h.mono e1, o, tv.mono e1, ?_⟩
    cases hr' : refIn r.s v with
    | some x =>
      rw [hr'] at q
      exact fun H2 e2 => q H2 (e1.trans e2)
    | none =>
    rw [hr'] at q
    intro H2 e2
    show tSeq _ _ _ _ _
    have g2 := e1.trans e2
    have h2 := h.mono g2
    obtain ⟨z, rfl, hin, hk⟩ : ∃ z, v = .str z ∧ r.s.isIn z = true ∧ r.s.known z = true := by
      unfold refIn at hr'
      by_cases a : knownV r.s v = true
      · rw [if_pos a] at hr'
        by_cases b : insideV r.s v = true
        · cases v <;> first | (cases a; done) | exact ⟨_, rfl, b, a⟩
        · rw [if_neg b] at hr'
          cases hr'
      · rw [if_neg a] at hr'
        cases hr'
    dsimp only at q
    refine B_when (b := decide (r.s.alone = some z)) (Ts.is (s_test (v_op (v_slot rfl) (v_at (v_slot rfl) h2.ins T.cl_Room T.n_Room__writer rfl) (bi_eq (by cases r.s.alone <;> rfl)))) (by rw [← optV_is]; exact decide_eq_decide.mpr ⟨Eq.symm, Eq.symm⟩)) (fun hb H3 e3 => ?_) fun hb H3 e3 => ?_
    · rw [if_pos (show aloneV r.s (.str z) = true from hb)] at q
      exact q H3 (g2.trans e3)
    rw [if_neg (show ¬ aloneV r.s (.str z) = true by rw [show aloneV r.s (.str z) = false from hb]; exact Bool.false_ne_true)] at q
    have h3 := h2.mono e3
    have g3 := g2.trans e3
    refine B_when (b := decide (r.s.asked ≠ none)) (Ts.is (s_test (v_op (v_at (v_slot rfl) h3.ins T.cl_Room T.n_Room__asker rfl) v_con bi_notN)) (by rw [optV_non]; cases r.s.asked <;> rfl)) (fun hb2 H4 e4 => ?_) fun hb2 H4 e4 => ?_
    · rw [if_pos (of_decide_eq_true hb2)] at q
      exact q H4 (g3.trans e4)
    rw [if_neg (of_decide_eq_false hb2)] at q
    have h4 := h3.mono e4
    have g4 := g3.trans e4
    have mr : z ∈ r.s.reading := by
      unfold Now.isIn at hin
      rw [hb, Bool.or_false] at hin
      exact of_decide_eq_true hin
    have hp := lim.ppl
    have hbk := lim.book
    have gd : Deed.good ⟨wAsked, z, rd⟩ := ⟨.inr (.inr (.inl rfl)), o.named hk, .inl rfl⟩
    have rf : r.s.refused ⟨wAsked, z, rd⟩ = false := by
      rw [refused_asked, decide_eq_true mr, hb2]
      rfl
    obtain ⟨d1, d2⟩ := Now.done_sizes o gd rf
    refine B_fld (v_slot rfl) (v_slot rfl) h4.ins T.cl_Room T.n_Room__asker (show 7 < 1000 by decide) fun H5 e5 => ?_
    rw [rfs_asked]
    have h5 := (h4.mono e5).setI r.s.alone (some z)
    have c5 : Ch r.L H (upd H5 r.p (.ins (He.ga K "Room") r.a.dx (rfs r.seats r.pat r.a (optV r.s.alone) (optV (some z))))) := ((Ch.of g4).gr e5).put (.inl rfl)
    rw [show ({ r.s with alone := r.s.alone, asked := some z } : Now) = r.s.done ⟨wAsked, z, rd⟩ from done_asked.symm] at h5
    refine S_retMU (v_slot rfl) h5.ins rfl (u_tup (g_cons v_con (g_cons (v_slot rfl) g_nil)) (show 2 ≤ 100000 by decide)) fun pr H6 hpr e6 h6 => ⟨{ r with s := r.s.done ⟨wAsked, z, rd⟩ }, pr, [wAsked, z], rfl, RoomAt.mono e6 h5, o.done gd rf, by show (r.s.done ⟨wAsked, z, rd⟩).people ≤ 10000; omega, by show r.rows.length + (r.s.done ⟨wAsked, z, rd⟩).left ≤ 50000; omega, h6, fun H7 l ys p s' c7 hl hl7 t7 st a7 => q z rfl H7 l ys p s' ((c5.gr e6).trans c7) ((c5.gr e6).free hl) hl7 t7 st a7⟩
theorem ok_Ease (T : Top K mg) (TB : Tabs T base) : FnOk P w K mg base (L2N.CX P w) 5 T.f_Ease T.fd_Ease ["self", "name"] (spOne K T.ta_IsName refEase wEased) := by
  have GNeedIn := ok_NeedIn (P := P) (w := w) (base := base) T TB
  have GSettle := ok_Settle (P := P) (w := w) (base := base) T TB
  refine RX.okN T.F_Ease scEase (fun vs H Q E h => ?_) (fun cdv A outer s H vs Q E hr h => ?_)
  · obtain ⟨r, n, v, rfl, h, ⟨o, lim, hn⟩, tv, q⟩ := h
    rfl
  · obtain ⟨r, n, v, rfl, h, ⟨o, lim, hn⟩, tv, q⟩ := h
    refine ⟨_, (pss_cons (ps_expr (pe_meth (pv 0) T.cl_Room T.M_NeedIn GNeedIn hr T.B_NeedIn .nil (RX.passD (L2N.takes_of rfl rfl rfl rfl)) (pa_cons (pv 1) pa_nil)))
      (pss_cons (ps_if (pt_cmpR op_ne (pv 1) (pe_fld (pv 0) rfl) (nomark _))
      (pss_one (L2N.ps_raise rfl (L2N.takes_of rfl rfl rfl rfl) (L2N.pmk_own PySem.F.excBase_ValueError T.xx_Reads.1 T.gc_Reads T.xx_Reads.2.1 (raises_own T.xx_Reads.2.2.1 T.xx_Reads.2.2.2) (by exact rfl))))
      pss_nil)
      (pss_cons (ps_fld (pv 0) pe_non rfl)
      (pss_cons (ps_dput (hu_of hr) (pe_fld (pv 0) rfl) (pv 1) pe_bl rfl)
      (pss_one (ps_ret (pe_meth (pv 0) T.cl_Room T.M_Settle GSettle hr T.B_Settle .nil pass0 (pa_cons (pe_tup (pa_cons (pe_glob (v := .str (Str.ofString "eased")) rfl T.c_EASED ⟨_, rfl⟩) (pa_cons (pv 1) pa_nil))) pa_nil)))))))), ?_⟩
    refine slots (start_Ease _ _) ?_
    unfold refEase at q
    refine B_meth (v_slot rfl) h.ins rfl (g_cons (v_slot rfl) g_nil) fun H1 e1 => ⟨r, _, rfl, h.mono e1, o, tv.mono e1, ?_⟩
    cases hr' : refIn r.s v with
    | some x =>
      rw [hr'] at q
      exact fun H2 e2 => q H2 (e1.trans e2)
    | none =>
    rw [hr'] at q
    intro H2 e2
    show tSeq _ _ _ _ _
    have g2 := e1.trans e2
    have h2 := h.mono g2
    obtain ⟨z, rfl, hin, hk⟩ : ∃ z, v = .str z ∧ r.s.isIn z = true ∧ r.s.known z = true := by
      unfold refIn at hr'
      by_cases a : knownV r.s v = true
      · rw [if_pos a] at hr'
        by_cases b : insideV r.s v = true
        · cases v <;> first | (cases a; done) | exact ⟨_, rfl, b, a⟩
        · rw [if_neg b] at hr'
          cases hr'
      · rw [if_neg a] at hr'
        cases hr'
    dsimp only at q
    refine B_when (b := !decide (r.s.alone = some z)) (Ts.is (s_test (v_op (v_slot rfl) (v_at (v_slot rfl) h2.ins T.cl_Room T.n_Room__writer rfl) (bi_ne (by cases r.s.alone <;> rfl)))) (by rw [← optV_is]; congr 1; exact decide_eq_decide.mpr ⟨Eq.symm, Eq.symm⟩)) (fun hb H3 e3 => ?_) fun hb H3 e3 => ?_
    · rw [Bool.not_eq_true'] at hb
      rw [if_neg (show ¬ aloneV r.s (.str z) = true by rw [show aloneV r.s (.str z) = false from hb]; exact Bool.false_ne_true)] at q
      exact q H3 (g2.trans e3)
    rw [Bool.not_eq_false'] at hb
    rw [if_pos (show aloneV r.s (.str z) = true from hb)] at q
    have h3 := h2.mono e3
    have g3 := g2.trans e3
    have ha := of_decide_eq_true hb
    obtain ⟨er, nq⟩ := o.ad z ha
    have hp := lim.ppl
    have hbk := lim.book
    have gd : Deed.good ⟨wEased, z, rd⟩ := ⟨.inr (.inr (.inr rfl)), o.named hk, .inl rfl⟩
    have rf : r.s.refused ⟨wEased, z, rd⟩ = false := by
      rw [refused_eased, ha]
      simp
    obtain ⟨d1, d2⟩ := Now.done_sizes o gd rf
    refine B_fld v_con (v_slot rfl) h3.ins T.cl_Room T.n_Room__writer (show 7 < 1000 by decide) fun H4 e4 => ?_
    rw [rfs_alone]
    have h4 : ({ r with s := { r.s with alone := none, asked := r.s.asked } } : Rm).At K T.ta_IsName (upd H4 r.p (.ins (He.ga K "Room") r.a.dx (rfs r.seats r.pat r.a .non (optV r.s.asked)))) := (h3.mono e4).setI none r.s.asked
    have c4 : Ch r.L H (upd H4 r.p (.ins (He.ga K "Room") r.a.dx (rfs r.seats r.pat r.a .non (optV r.s.asked)))) := ((Ch.of g3).gr e4).put (.inl rfl)
    generalize upd H4 r.p (.ins (He.ga K "Room") r.a.dx (rfs r.seats r.pat r.a .non (optV r.s.asked))) = H5 at c4 h4 ⊢
    have hd5 : H5 r.a.rd = some (.dK (rdD [])) := by
      have := h4.dict
      rw [show ({ r.s with alone := none, asked := r.s.asked } : Now).reading = r.s.reading from rfl, er] at this
      exact this
    refine B_dadd (l := []) v_con (v_at (v_slot rfl) h4.ins T.cl_Room T.n_Room__readers rfl) (v_slot rfl) hd5 List.not_mem_nil (by decide) fun H6 e6 => ?_
    have h7 := (RoomAt.mono e6 h4).setR [z]
    have c7 : Ch r.L H (upd H6 r.a.rd (.dK (rdD [z]))) := (c4.gr e6).put (.inr (.inl rfl))
    have h7' : ({ r with s := r.s.done ⟨wEased, z, rd⟩ } : Rm).At K T.ta_IsName (upd H6 r.a.rd (.dK (rdD [z]))) := by
      rw [done_eased]
      exact h7
    exact S_retMU (v_slot rfl) h7'.ins rfl (u_tup (g_cons v_con (g_cons (v_slot rfl) g_nil)) (show 2 ≤ 100000 by decide)) fun pr H8 hpr e8 h8 => ⟨{ r with s := r.s.done ⟨wEased, z, rd⟩ }, pr, [wEased, z], rfl, RoomAt.mono e8 h7', o.done gd rf, by show (r.s.done ⟨wEased, z, rd⟩).people ≤ 10000; omega, by show r.rows.length + (r.s.done ⟨wEased, z, rd⟩).left ≤ 50000; omega, h8, fun H9 l ys p s' c9 hl hl9 t9 st a9 => q z rfl H9 l ys p s' ((c7.gr e8).trans c9) ((c7.gr e8).free hl) hl9 t9 st a9⟩
theorem ok_ReadersM (T : Top K mg) (TB : Tabs T base) : FnOk P w K mg base CX0 1 T.f_ReadersM T.fd_ReadersM ["self"] (spReaders K T.ta_IsName) := by
  refine T.F_ReadersM.ok scReadersM (fun vs H Q E h => ?_) (fun cdv A outer s H vs Q E hr h => ?_)
  · obtain ⟨r, rfl, h, q⟩ := h
    rfl
  · obtain ⟨r, rfl, h, q⟩ := h
    refine ⟨_, (pss_one (ps_ret (pe_callTy (call_listD rfl) (by rfl) T.m_list (by decide +kernel) (pa_cons (pe_fld (pv 0) rfl) pa_nil)))), ?_⟩
    refine slots (start_ReadersM _) ?_
    exact S_retL (l_listD (v_at (v_slot rfl) h.ins T.cl_Room T.n_Room__readers rfl) h.dict) fun p H1 hp e1 h1 => q p H1 hp e1 h1
theorem ok_WriterM (T : Top K mg) (TB : Tabs T base) : FnOk P w K mg base CX0 1 T.f_WriterM T.fd_WriterM ["self"] (spWriter K T.ta_IsName) := by
  refine T.F_WriterM.ok scWriterM (fun vs H Q E h => ?_) (fun cdv A outer s H vs Q E hr h => ?_)
  · obtain ⟨r, rfl, h, q⟩ := h
    rfl
  · obtain ⟨r, rfl, h, q⟩ := h
    refine ⟨_, (pss_one (ps_ret (pe_fld (pv 0) rfl))), ?_⟩
    refine slots (start_WriterM _) ?_
    exact S_ret (v_at (v_slot rfl) h.ins T.cl_Room T.n_Room__writer rfl) fun H1 e1 => q H1 e1
-- no AskerM here
theorem ok_LineM (T : Top K mg) (TB : Tabs T base) : FnOk P w K mg base CX0 1 T.f_LineM T.fd_LineM ["self"] (spLine K T.ta_IsName) := by
  refine T.F_LineM.ok scLineM (fun vs H Q E h => ?_) (fun cdv A outer s H vs Q E hr h => ?_)
  · obtain ⟨r, rfl, h, hn, q⟩ := h
    rfl
  · obtain ⟨r, rfl, h, hn, q⟩ := h
    refine ⟨_, (pss_one (ps_ret (pe_lc (own := [("name", 2), ("wish", 3), ("_", 1)]) (g := (gTup K 3 (gCons (gName 2) (gCons (gName 3) (gCons (gName 1) gNil))))) rfl scLineM.nd (pi_list (pe_fld (pv 0) rfl)) (blkOk_by (own := [("name", 2), ("wish", 3), ("_", 1)]) (N := nmLineM) (sc := defScope sLineM) (by decide +kernel)) (fun _ _ _ _ _ => (pg_tup rfl (pgs_cons (pg_name (i := 2) scLineM.nd rfl (Or.inl rfl)) (pgs_cons (pg_name (i := 3) scLineM.nd rfl (Or.inl rfl)) (pgs_cons (pg_name (i := 1) scLineM.nd rfl (Or.inl rfl)) pgs_nil))))) (fun _ _ _ _ _ => pts_nil) (fun _ _ _ _ _ => (pe_tup (pa_cons (pv 2) (pa_cons (pv 3) pa_nil))))))), ?_⟩
    refine slots (start_LineM _) ?_
    obtain ⟨xs, hx, tx⟩ := id h.line
    have lx := tx.length
    exact S_retR (r_cmpG (g := P2.vs) (F := QE.pair) (τ := fun u => [some (.ref r.p), some (.int u.often), some (.str u.who), some (.str u.wish)]) (v_at (v_slot rfl) h.ins T.cl_Room T.n_Room__line rfl) hx tx (by omega)
      (fun p u H1 Q1 hp q1 => ⟨p, _, rfl, SqT.of hp, rfl, .str u.who, _, rfl, .str u.wish, _, rfl, .int u.often, _, rfl, rfl, q1⟩) (fun u => rfl) fun u H1 e1 => u_tup (g_cons (v_slot rfl) (g_cons (v_slot rfl) g_nil)) (show 2 ≤ 100000 by decide)) fun v H1 e1 k => q v H1 e1 k
theorem ok_JournalM (T : Top K mg) (TB : Tabs T base) : FnOk P w K mg base CX0 1 T.f_JournalM T.fd_JournalM ["self"] (spJournal K T.ta_IsName) := by
  refine T.F_JournalM.ok scJournalM (fun vs H Q E h => ?_) (fun cdv A outer s H vs Q E hr h => ?_)
  · obtain ⟨r, rfl, h, q⟩ := h
    rfl
  · obtain ⟨r, rfl, h, q⟩ := h
    refine ⟨_, (pss_one (ps_ret (pe_callTy call_list_of (by rfl) T.m_list (by decide +kernel) (pa_cons (pe_fld (pv 0) rfl) pa_nil)))), ?_⟩
    refine slots (start_JournalM _) ?_
    obtain ⟨ys, hy, ty⟩ := id h.book
    exact S_retL (l_list (v_at (v_slot rfl) h.ins T.cl_Room T.n_Room__rows rfl) (SqL.of hy)) fun p H1 hp e1 h1 => q _ H1 e1 ⟨p, ys, rfl, hp, h1, ty.mono e1⟩
theorem ok_PassedM (T : Top K mg) (TB : Tabs T base) : FnOk P w K mg base (L2N.CX P w) 4 T.f_PassedM T.fd_PassedM ["self", "name"] (spPassed K T.ta_IsName) := by
  have GNeedKnown := ok_NeedKnown (P := P) (w := w) (base := base) T TB
  have GIsIn := ok_IsIn (P := P) (w := w) (base := base) T TB
  have GPlaceM := ok_PlaceM (P := P) (w := w) (base := base) T TB
  refine RX.okN T.F_PassedM scPassedM (fun vs H Q E h => ?_) (fun cdv A outer s H vs Q E hr h => ?_)
  · obtain ⟨r, v, rfl, h, o, tv, q⟩ := h
    rfl
  · obtain ⟨r, v, rfl, h, o, tv, q⟩ := h
    refine ⟨_, (pss_cons (ps_expr (pe_meth (pv 0) T.cl_Room T.M_NeedKnown GNeedKnown hr T.B_NeedKnown .nil (RX.passD (L2N.takes_of rfl rfl rfl rfl)) (pa_cons (pv 1) pa_nil)))
      (pss_cons (ps_if (pt_val (pe_meth (pv 0) T.cl_Room T.M_IsIn GIsIn (hr.mono (by decide)) T.B_IsIn .nil pass0 (pa_cons (pv 1) pa_nil)))
      (pss_one (L2N.ps_raise rfl (L2N.takes_of rfl rfl rfl rfl) (L2N.pmk_own PySem.F.excBase_ValueError T.xx_Inside.1 T.gc_Inside T.xx_Inside.2.1 (raises_own T.xx_Inside.2.2.1 T.xx_Inside.2.2.2) (by exact rfl))))
      pss_nil)
      (pss_one (ps_ret (pe_ix ix_tup (pe_ix ix_list (pe_fld (pv 0) rfl) (pe_meth (pv 0) T.cl_Room T.M_PlaceM GPlaceM (hr.mono (by decide)) T.B_PlaceM .nil pass0 (pa_cons (pv 1) pa_nil)) (fun _ _ => rfl)) pe_int (fun _ _ => rfl)))))), ?_⟩
    refine slots (start_PassedM _ _) ?_
    unfold refPassed at q
    refine B_meth (v_slot rfl) h.ins rfl (g_cons (v_slot rfl) g_nil) fun H1 e1 => ⟨r, _, rfl, h.mono e1, o, tv.mono e1, ?_⟩
    unfold refKnown
    by_cases hk : knownV r.s v = true
    rotate_left
    · rw [if_neg hk] at q ⊢
      exact fun H2 e2 => q H2 (e1.trans e2)
    rw [if_pos hk] at q ⊢
    obtain ⟨z, rfl⟩ : ∃ z, v = .str z := by
      cases v <;> first | (cases hk; done) | exact ⟨_, rfl⟩
    intro H2 e2
    show tSeq _ _ _ _ _
    have g2 := e1.trans e2
    have h2 := h.mono g2
    refine B_when (b := r.s.isIn z) (s_B (v_meth (v_slot rfl) h2.ins rfl (g_cons (v_slot rfl) g_nil) (sv_isin h2))) (fun hb H3 e3 => ?_) fun hb H3 e3 => ?_
    · rw [if_pos (show insideV r.s (.str z) = true from hb)] at q
      exact q H3 (g2.trans e3)
    rw [if_neg (show ¬ insideV r.s (.str z) = true by rw [show insideV r.s (.str z) = false from hb]; exact Bool.false_ne_true)] at q
    have mq : z ∈ r.s.queue.map QE.who := by
      have hk' : r.s.known z = true := hk
      rw [Now.known_is, hb, Bool.false_or] at hk'
      exact of_decide_eq_true hk'
    obtain ⟨j, hj⟩ : ∃ j, findAt z r.s.queue 0 = some j := by
      have := findAt_mem (z := z) (l := r.s.queue) (k := 0)
      rw [decide_eq_true mq] at this
      exact Option.isSome_iff_exists.mp this
    obtain ⟨j', e, ej, he, hw⟩ := findAt_some hj
    obtain rfl : j = j' := by omega
    have h3 := h2.mono e3
    obtain ⟨xs, hx, tx⟩ := id h3.line
    obtain ⟨pt, hpt, ht⟩ := tx.get j he
    exact S_ret (v_op (v_op (v_at (v_slot rfl) h3.ins T.cl_Room T.n_Room__line rfl) (Vl.is (v_meth (v_slot rfl) h3.ins rfl (g_cons (v_slot rfl) g_nil) (sv_place h3)) (by rw [hj]; rfl)) (bi_ixL (SqL.of hx) (atI_nat hpt))) v_con (bi_ixT (SqT.of ht) rfl)) fun H4 e4 => q z j e rfl hj he H4 ((g2.trans e3).trans e4)

--CUT
theorem ok_IsNumber (T : Top K mg) (TB : Tabs T base) : FnOk P w K mg base CX0 1 T.f_IsNumber T.fd_IsNumber ["thing", "least"] (spIsNumber K) := by
  refine T.F_IsNumber.ok scIsNumber (fun vs H Q E h => ?_) (fun cdv A outer s H vs Q E hr h => ?_)
  · obtain ⟨v, l, rfl, hv, q⟩ := h
    rfl
  · obtain ⟨v, l, rfl, hv, q⟩ := h
    refine ⟨_, (pss_cons (ps_if (PW.pt (pw_or (pt_not (pt_val (pe_callB call_isi (by rfl) T.m_isinstance (by decide +kernel) (pa_cons (pv 0) (pa_cons (pe_bltn (v := .ty "int") (by rfl) T.m_int (by decide +kernel) rfl) pa_nil))))) (pw_or1 (pt_val (pe_callB call_isi (by rfl) T.m_isinstance (by decide +kernel) (pa_cons (pv 0) (pa_cons (pe_bltn (v := .ty "bool") (by rfl) T.m_bool (by decide +kernel) rfl) pa_nil)))))))
      (pss_one (ps_ret pe_bl))
      pss_nil)
      (pss_one (ps_ret (pe_chain op_le op_le (pv 1) (pv 0) (pe_glob (v := .int 1000000000) rfl T.c_MOST ⟨_, rfl⟩))))), ?_⟩
    refine slots (start_IsNumber _ _) ?_
    rcases hv with ⟨i, rfl⟩ | ⟨b, rfl⟩ | ⟨⟨n, ty, kt⟩, no⟩
    · refine B_when (b := false) (Ts.is (s_or (s_not (s_B (v_isiI (v_slot rfl)))) fun _ => s_B (v_isbI (v_slot rfl))) rfl) (fun z => nomatch z) fun _ H1 e1 => ?_
      exact S_ret (v_chain (v_slot rfl) (v_slot rfl) bi_0 (fun _ => v_con) fun _ => bi_0) fun H2 e2 => q H2 (e1.trans e2)
    · refine B_when (b := true) (Ts.is (s_or (c := true) (s_not (s_B (v_isi (b := true) (v_slot rfl) v_con (.ty _) (fun _ _ => .base (.bl b)) (kit_ty (by decide +kernel))))) fun _ => s_B (v_isbB (v_slot rfl))) rfl) (fun _ H1 e1 => ?_) fun z => nomatch z
      exact S_ret v_con fun H2 e2 => q H2 (e1.trans e2)
    · refine B_when (b := true) (Ts.is (s_or (c := true) (s_not (s_B (v_isi (b := false) (v_slot rfl) v_con (.ty _) (fun _ g => g.tyX ty) kt))) fun z => nomatch z) rfl) (fun _ H1 e1 => ?_) fun z => nomatch z
      have e : numV l v = false := by
        cases v <;> first | exact absurd rfl (no _) | rfl
      rw [e] at q
      exact S_ret v_con fun H2 e2 => q H2 (e1.trans e2)
theorem ok_RoomInit (T : Top K mg) (TB : Tabs T base) : FnOk P w K mg base (L2N.CX P w) 2 T.f_RoomInit T.fd_RoomInit ["self", "seats", "patience"] (spInit K T.ta_IsName) := by
  have GIsNumber := ok_IsNumber (P := P) (w := w) (base := base) T TB
  refine RX.okN T.F_RoomInit scRoomInit (fun vs H Q E h => ?_) (fun cdv A outer s H vs Q E hr h => ?_)
  · obtain ⟨p, dx, v, w, rfl, hp, hT, hv, hw, q1, q2⟩ := h
    rfl
  · obtain ⟨p, dx, v, w, rfl, hp, hT, hv, hw, q1, q2⟩ := h
    refine ⟨_, (pss_cons (ps_if (pt_not (pt_val (pe_call GIsNumber hr (by rfl) T.g_IsNumber T.F_IsNumber.kp T.B_IsNumber .nil pass0 (pa_cons (pv 1) (pa_cons (pe_glob (v := .int 1) rfl T.c_LEAST_SEATS ⟨_, rfl⟩) pa_nil)))))
      (pss_one (L2N.ps_raise rfl (L2N.takes_of rfl rfl rfl rfl) (L2N.pmk_own PySem.F.excBase_ValueError T.xx_BadNumber.1 T.gc_BadNumber T.xx_BadNumber.2.1 (raises_own T.xx_BadNumber.2.2.1 T.xx_BadNumber.2.2.2) (by exact rfl))))
      pss_nil)
      (pss_cons (ps_if (pt_not (pt_val (pe_call GIsNumber hr (by rfl) T.g_IsNumber T.F_IsNumber.kp T.B_IsNumber .nil pass0 (pa_cons (pv 2) (pa_cons (pe_glob (v := .int 0) rfl T.c_LEAST_PATIENCE ⟨_, rfl⟩) pa_nil)))))
      (pss_one (L2N.ps_raise rfl (L2N.takes_of rfl rfl rfl rfl) (L2N.pmk_own PySem.F.excBase_ValueError T.xx_BadNumber.1 T.gc_BadNumber T.xx_BadNumber.2.1 (raises_own T.xx_BadNumber.2.2.1 T.xx_BadNumber.2.2.2) (by exact rfl))))
      pss_nil)
      (pss_cons (ps_fld (pv 0) (pv 1) rfl)
      (pss_cons (ps_fld (pv 0) (pv 2) rfl)
      (pss_cons (ps_fld (pv 0) pe_dnewK rfl)
      (pss_cons (ps_fld (pv 0) pe_non rfl)
      (pss_cons (ps_fld (pv 0) pe_non rfl)
      (pss_cons (ps_fld (pv 0) (pe_lst pa_nil) rfl)
      (pss_one (ps_fld (pv 0) (pe_lst pa_nil) rfl)))))))))), ?_⟩
    refine slots (start_RoomInit _ _ _) ?_
    refine B_when (b := !numV 1 v) (s_not (s_B (v_call (g_cons (v_slot rfl) (g_cons v_con g_nil)) (sv_isnumber hv)))) (fun hb H1 e1 => ?_) fun hb H1 e1 => ?_
    · rw [Bool.not_eq_true'] at hb
      exact q1 (by rw [hb]; rfl) H1 e1
    rw [Bool.not_eq_false'] at hb
    refine B_when (b := !numV 0 w) (s_not (s_B (v_call (g_cons (v_slot rfl) (g_cons v_con g_nil)) (sv_isnumber (hw.mono e1))))) (fun hb2 H2 e2 => ?_) fun hb2 H2 e2 => ?_
    · rw [Bool.not_eq_true'] at hb2
      exact q1 (by rw [hb2, hb]; rfl) H2 (e1.trans e2)
    rw [Bool.not_eq_false'] at hb2
    obtain ⟨seats, rfl⟩ : ∃ i, v = .int i := by
      cases v <;> first | (cases hb; done) | exact ⟨_, rfl⟩
    obtain ⟨pat, rfl⟩ : ∃ i, w = .int i := by
      cases w <;> first | (cases hb2; done) | exact ⟨_, rfl⟩
    have g2 := e1.trans e2
    have np : ∀ {x : Addr}, H x = none → x ≠ p := fun hx z => by rw [z, hp] at hx; cases hx
    refine B_fld (v_slot rfl) (v_slot rfl) (g2.ins hp) T.cl_Room T.n_Room_seats (show 0 < 1000 by decide) fun H3 e3 => ?_
    have c3 : Ch (fun x => x = p) H (upd H3 p (.ins (He.ga K "Room") dx (if1 seats))) := ((Ch.of g2).gr e3).put rfl
    show tSeq _ _ _ _ (upd H3 p (.ins (He.ga K "Room") dx (if1 seats)))
    have i3 : (upd H3 p (.ins (He.ga K "Room") dx (if1 seats))) p = _ := upd_same
    generalize upd H3 p (.ins (He.ga K "Room") dx (if1 seats)) = H4 at c3 i3 ⊢
    refine B_fld (v_slot rfl) (v_slot rfl) i3 T.cl_Room T.n_Room_patience (show 1 < 1000 by decide) fun H5 e5 => ?_
    rw [put_if2]
    have c5 : Ch (fun x => x = p) H (upd H5 p (.ins (He.ga K "Room") dx (if2 seats pat))) := (c3.gr e5).put rfl
    have i5 : (upd H5 p (.ins (He.ga K "Room") dx (if2 seats pat))) p = _ := upd_same
    generalize upd H5 p (.ins (He.ga K "Room") dx (if2 seats pat)) = H6 at c5 i5 ⊢
    refine B_fldR (R := fun v H1 => ∃ d, v = .ref d ∧ H6 d = none ∧ H1 d = some (.dK [])) r_dnew (v_slot rfl) i5 T.cl_Room T.n_Room__readers (show 2 < 1000 by decide) (fun g ⟨d, a, b, c⟩ => ⟨d, a, b, g.dK c⟩) fun v H7 e7 ⟨d, ev, nd, hd⟩ => ?_
    subst ev
    rw [put_if3]
    have nd0 := c5.free nd
    have c7 : Ch (fun x => x = p) H (upd H7 p (.ins (He.ga K "Room") dx (if3 seats pat d))) := (c5.gr e7).put rfl
    have i7 : (upd H7 p (.ins (He.ga K "Room") dx (if3 seats pat d))) p = _ := upd_same
    have d7 : (upd H7 p (.ins (He.ga K "Room") dx (if3 seats pat d))) d = some (.dK []) := (upd_ne (np nd0)).trans hd
    generalize upd H7 p (.ins (He.ga K "Room") dx (if3 seats pat d)) = H8 at c7 i7 d7 ⊢
    refine B_fld v_con (v_slot rfl) i7 T.cl_Room T.n_Room__writer (show 3 < 1000 by decide) fun H9 e9 => ?_
    rw [put_if4]
    have c9 : Ch (fun x => x = p) H (upd H9 p (.ins (He.ga K "Room") dx (if4 seats pat d))) := (c7.gr e9).put rfl
    have i9 : (upd H9 p (.ins (He.ga K "Room") dx (if4 seats pat d))) p = _ := upd_same
    have d9 : (upd H9 p (.ins (He.ga K "Room") dx (if4 seats pat d))) d = some (.dK []) := (upd_ne (np nd0)).trans (e9.dK d7)
    generalize upd H9 p (.ins (He.ga K "Room") dx (if4 seats pat d)) = H10 at c9 i9 d9 ⊢
    refine B_fld v_con (v_slot rfl) i9 T.cl_Room T.n_Room__asker (show 4 < 1000 by decide) fun H11 e11 => ?_
    rw [put_if5]
    have c11 : Ch (fun x => x = p) H (upd H11 p (.ins (He.ga K "Room") dx (if5 seats pat d))) := (c9.gr e11).put rfl
    have i11 : (upd H11 p (.ins (He.ga K "Room") dx (if5 seats pat d))) p = _ := upd_same
    have d11 : (upd H11 p (.ins (He.ga K "Room") dx (if5 seats pat d))) d = some (.dK []) := (upd_ne (np nd0)).trans (e11.dK d9)
    generalize upd H11 p (.ins (He.ga K "Room") dx (if5 seats pat d)) = H12 at c11 i11 d11 ⊢
    refine B_fldR (R := fun v H1 => ∃ l, v = .ref l ∧ H12 l = none ∧ H1 l = some (.lst [])) (Ls.toN (l_lst g_nil (show 0 ≤ 100000 by decide))) (v_slot rfl) i11 T.cl_Room T.n_Room__line (show 5 < 1000 by decide) (fun g ⟨d, a, b, c⟩ => ⟨d, a, b, g.lst c⟩) fun v H13 e13 ⟨l1, ev, nl1, hl1⟩ => ?_
    subst ev
    rw [put_if6]
    have nl1' := c11.free nl1
    have c13 : Ch (fun x => x = p) H (upd H13 p (.ins (He.ga K "Room") dx (if6 seats pat d l1))) := (c11.gr e13).put rfl
    have i13 : (upd H13 p (.ins (He.ga K "Room") dx (if6 seats pat d l1))) p = _ := upd_same
    have d13 : (upd H13 p (.ins (He.ga K "Room") dx (if6 seats pat d l1))) d = some (.dK []) := (upd_ne (np nd0)).trans (e13.dK d11)
    have l13 : (upd H13 p (.ins (He.ga K "Room") dx (if6 seats pat d l1))) l1 = some (.lst []) := (upd_ne (np nl1')).trans hl1
    generalize upd H13 p (.ins (He.ga K "Room") dx (if6 seats pat d l1)) = H14 at c13 i13 d13 l13 ⊢
    refine S_fldR (R := fun v H1 => ∃ l, v = .ref l ∧ H14 l = none ∧ H1 l = some (.lst [])) (Ls.toN (l_lst g_nil (show 0 ≤ 100000 by decide))) (v_slot rfl) i13 T.cl_Room T.n_Room__rows (show 6 < 1000 by decide) (fun g ⟨d, a, b, c⟩ => ⟨d, a, b, g.lst c⟩) fun v H15 e15 ⟨l2, ev, nl2, hl2⟩ => ?_
    subst ev
    rw [show putF "_rows" (V.ref l2) (if6 seats pat d l1) = rfs seats pat ⟨dx, d, l1, l2⟩ .non .non from put_if7 (a := ⟨dx, d, l1, l2⟩)]
    have nl2' := c13.free nl2
    have n12 : l1 ≠ l2 := fun z => by rw [← z, l13] at nl2; cases nl2
    refine q2 (by rw [hb, hb2]; rfl) ⟨dx, d, l1, l2⟩ seats pat _ rfl rfl ((c13.gr e15).put rfl) nd0 nl1' nl2' rfl ⟨upd_same, (upd_ne (np nd0)).trans (e15.dK d13), ⟨[], (upd_ne (np nl1')).trans (e15.lst l13), .nil⟩, ⟨[], (upd_ne (np nl2')).trans hl2, .nil⟩, n12, ?_⟩
    obtain ⟨ps, e9, t9⟩ := (c13.gr e15).tab hT (fun z => by obtain ⟨ps, e9, _⟩ := hT; rw [z, hp] at e9; cases e9)
    exact ⟨ps, (upd_ne fun z => by obtain ⟨ps', e8, _⟩ := hT; rw [z, hp] at e8; cases e8).trans e9, t9⟩


--CUT
theorem ok_IsWord (T : Top K mg) (TB : Tabs T base) : FnOk P w K mg base CX0 1 T.f_IsWord T.fd_IsWord ["thing", "words"] (spIsWord K) := by
  refine T.F_IsWord.ok scIsWord (fun vs H Q E h => ?_) (fun cdv A outer s H vs Q E hr h => ?_)
  · obtain ⟨v, p, l, rfl, hv, hp, q⟩ := h
    rfl
  · obtain ⟨v, p, l, rfl, hv, hp, q⟩ := h
    refine ⟨_, (pss_one (ps_ret (pe_and (pe_callB call_isi (by rfl) T.m_isinstance (by decide +kernel) (pa_cons (pv 0) (pa_cons (pe_bltn (v := .ty "str") (by rfl) T.m_str (by decide +kernel) rfl) pa_nil))) (pe_one (pe_cmpR op_in_seq (pv 0) (pv 1) (by rfl)))))), ?_⟩
    refine slots (start_IsWord _ _) ?_
    rcases hv with ⟨z, rfl, hz⟩ | ⟨hn, no⟩
    · refine S_ret (v_and (v_issS (v_slot rfl)) (fun _ => v_op (v_slot rfl) (v_slot rfl) (bi_inT hp rfl (flat_words l)))) fun H1 e1 => ?_
      have e : (true && (if false = true then !inV (.str z) (l.map V.str) else inV (.str z) (l.map V.str))) = wordV l (.str z) := by
        rw [if_neg Bool.false_ne_true, Bool.true_and, in_words]
        rfl
      rw [e]
      exact q H1 e1
    · refine S_ret (v_and (c := false) (v_nostr (v_slot rfl) hn) (fun hb => absurd hb (by decide))) fun H1 e1 => ?_
      rw [(no_of no).2.2] at q
      exact q H1 e1
theorem ok_IsRow (T : Top K mg) (TB : Tabs T base) : FnOk P w K mg base CX0 2 T.f_IsRow T.fd_IsRow ["thing"] (spIsRow K T.ta_IsName) := by
  have GIsWord := ok_IsWord (P := P) (w := w) (base := base) T TB
  have GIsName := ok_IsName (P := P) (w := w) (base := base) T TB
  have GIsWish := ok_IsWish (P := P) (w := w) (base := base) T TB
  refine T.F_IsRow.ok scIsRow (fun vs H Q E h => ?_) (fun cdv A outer s H vs Q E hr h => ?_)
  · obtain ⟨v, rfl, hT, hv⟩ := h
    rfl
  · obtain ⟨v, rfl, hT, hv⟩ := h
    refine ⟨_, (pss_cons (ps_if (pt_not (pt_val (pe_callB call_isi (by rfl) T.m_isinstance (by decide +kernel) (pa_cons (pv 0) (pa_cons (pe_bltn (v := .ty "tuple") (by rfl) T.m_tuple (by decide +kernel) rfl) pa_nil)))))
      (pss_one (ps_ret pe_bl))
      pss_nil)
      (pss_cons (ps_if (pt_cmpR op_eq (pe_callB call_len_seq (by rfl) T.m_len PySem.boot_len (pa_cons (pv 0) pa_nil)) pe_int (nomark _))
      (pss_cons (ps_asg (pv 0) (pg_tup rfl (pgs_cons (pg_name (i := 1) scIsRow.nd rfl (Or.inl rfl)) (pgs_cons (pg_name (i := 2) scIsRow.nd rfl (Or.inl rfl)) (pgs_cons (pg_name (i := 3) scIsRow.nd rfl (Or.inl rfl)) pgs_nil)))))
      (pss_one (ps_ret (pe_and (pe_call GIsWord hr (by rfl) T.g_IsWord T.F_IsWord.kp T.B_IsWord .nil pass0 (pa_cons (pv 1) (pa_cons (pe_tup (pa_cons (pe_glob (v := .str (Str.ofString "came")) rfl T.c_CAME ⟨_, rfl⟩) (pa_cons (pe_glob (v := .str (Str.ofString "begins")) rfl T.c_BEGINS ⟨_, rfl⟩) pa_nil))) pa_nil))) (pe_and (pe_call GIsName hr (by rfl) T.g_IsName T.F_IsName.kp T.B_IsName .nil pass0 (pa_cons (pv 2) pa_nil)) (pe_one (pe_call GIsWish hr (by rfl) T.g_IsWish T.F_IsWish.kp T.B_IsWish .nil pass0 (pa_cons (pv 3) pa_nil))))))))
      pss_nil)
      (pss_cons (ps_if (pt_cmpR op_eq (pe_callB call_len_seq (by rfl) T.m_len PySem.boot_len (pa_cons (pv 0) pa_nil)) pe_int (nomark _))
      (pss_cons (ps_asg (pv 0) (pg_tup rfl (pgs_cons (pg_name (i := 1) scIsRow.nd rfl (Or.inl rfl)) (pgs_cons (pg_name (i := 2) scIsRow.nd rfl (Or.inl rfl)) pgs_nil))))
      (pss_one (ps_ret (pe_and (pe_call GIsWord hr (by rfl) T.g_IsWord T.F_IsWord.kp T.B_IsWord .nil pass0 (pa_cons (pv 1) (pa_cons (pe_tup (pa_cons (pe_glob (v := .str (Str.ofString "left")) rfl T.c_LEFT ⟨_, rfl⟩) (pa_cons (pe_glob (v := .str (Str.ofString "asked")) rfl T.c_ASKED ⟨_, rfl⟩) (pa_cons (pe_glob (v := .str (Str.ofString "eased")) rfl T.c_EASED ⟨_, rfl⟩) pa_nil)))) pa_nil))) (pe_one (pe_call GIsName hr (by rfl) T.g_IsName T.F_IsName.kp T.B_IsName .nil pass0 (pa_cons (pv 2) pa_nil)))))))
      pss_nil)
      (pss_one (ps_ret pe_bl))))), ?_⟩
    refine slots (start_IsRow _) ?_
    rcases hv with ⟨p, xs, rfl, hp, th, q⟩ | ⟨⟨n, ty, kt⟩, q⟩
    rotate_left
    · refine B_when (b := true) (Ts.is (s_not (s_B (v_isi (b := false) (v_slot rfl) v_con (.ty _) (fun _ g => g.tyX ty) kt))) rfl) (fun _ H1 e1 => ?_) (fun hb => nomatch hb)
      exact S_ret v_con fun H2 e2 => q H2 (e1.trans e2)
    refine B_when (b := false) (Ts.is (s_not (s_B (v_ist (v_slot rfl) hp))) rfl) (fun hb => nomatch hb) (fun _ H1 e1 => ?_)
    replace q := q.mono e1
    replace hT := e1.tab hT
    replace hp := e1.tup hp
    replace th : ∀ x ∈ xs, Thing K x H1 := fun x hx => (th x hx).mono e1
    have se : ∀ a b : Int, decide (V.int a = V.int b) = decide (a = b) := fun a b => decide_eq_decide.mpr ⟨V.int.inj, congrArg V.int⟩
    have wd : ∀ {H2 : Hp} {σ : L2.St} {v : V} {E1 : XK} {t2 : TE} (l : List Str), σ[1]? = some (some v) → Thing K v H2 → Tu t2 σ H2 (l.map V.str) → Vl (tCall (spIsWord K) [] E1 (tCons (tVar 1) (tCons t2 tNil))) σ H2 (.bl (wordV l v)) := fun l hs th t => v_callU (v_slot hs) t fun p H1 g e => sv_isword (th.mono g) (SqT.of e)
    refine B_when (b := decide ((xs.length : Int) = 3)) (Ts.is (s_test (v_op (v_lenT (v_slot rfl) (SqT.of hp)) v_con (bi_eq rfl))) (se _ _)) (fun hb H2 e2 => ?_) (fun hb H2 e2 => ?_)
    · have h3 := of_decide_eq_true hb
      match xs, hp, th, q, h3 with
      | [a, b, c], hp, th, q, _ =>
        refine ⟨_, rfl, p, _, rfl, SqT.of (e2.tup hp), rfl, a, _, rfl, b, _, rfl, c, _, rfl, rfl, ?_⟩
        walk_at "n"
        have hT2 := e2.tab hT
        have ta := (th a (by simp)).mono e2
        have tb := (th b (by simp)).mono e2
        have tc := (th c (by simp)).mono e2
        exact S_ret (v_and (wd ["came", "begins"] rfl ta (u_tup (g_cons v_con (g_cons v_con g_nil)) (by decide))) (fun _ => v_and (v_call (g_cons (v_slot rfl) g_nil) (sv_name hT2 tb)) (fun _ => v_call (g_cons (v_slot rfl) g_nil) (sv_wishv hT2 tc)))) fun H3 e3 => q H3 (e2.trans e3)
      | [], _, _, _, h3 => simp at h3
      | [_], _, _, _, h3 => simp at h3
      | [_, _], _, _, _, h3 => simp at h3
      | _ :: _ :: _ :: _ :: _, _, _, _, h3 => exfalso; simp only [List.length_cons] at h3; omega
    · have h3 := of_decide_eq_false hb
      replace q := q.mono e2
      replace hT := e2.tab hT
      replace hp := e2.tup hp
      replace th : ∀ x ∈ xs, Thing K x H2 := fun x hx => (th x hx).mono e2
      refine B_when (b := decide ((xs.length : Int) = 2)) (Ts.is (s_test (v_op (v_lenT (v_slot rfl) (SqT.of hp)) v_con (bi_eq rfl))) (se _ _)) (fun hb2 H3 e3 => ?_) (fun hb2 H3 e3 => ?_)
      · have h2 := of_decide_eq_true hb2
        match xs, hp, th, q, h2 with
        | [a, b], hp, th, q, _ =>
          refine ⟨_, rfl, p, _, rfl, SqT.of (e3.tup hp), rfl, a, _, rfl, b, _, rfl, rfl, ?_⟩
          walk_at "n"
          have hT2 := e3.tab hT
          have ta := (th a (by simp)).mono e3
          have tb := (th b (by simp)).mono e3
          exact S_ret (v_and (wd ["left", "asked", "eased"] rfl ta (u_tup (g_cons v_con (g_cons v_con (g_cons v_con g_nil))) (by decide))) (fun _ => v_call (g_cons (v_slot rfl) g_nil) (sv_name hT2 tb))) fun H4 e4 => q H4 (e3.trans e4)
        | [], _, _, _, h2 => simp at h2
        | [_], _, _, _, h2 => simp at h2
        | _ :: _ :: _ :: _, _, _, _, h2 => exfalso; simp only [List.length_cons] at h2; omega
      · have h2 := of_decide_eq_false hb2
        refine S_ret v_con fun H4 e4 => ?_
        have e : rowV xs = false := by
          match xs, h3, h2 with
          | [], _, _ => rfl
          | [_], _, _ => rfl
          | [_, _], _, h2 => exact absurd rfl h2
          | [_, _, _], h3, _ => exact absurd rfl h3
          | _ :: _ :: _ :: _ :: _, _, _ => rfl
        rw [e] at q
        exact q H4 (e3.trans e4)

/-! ### what the room tells, beside the plain lists -/
section
variable {K : PySem.W.Frag} {σ : L2.St} {H H' : Hp} {t1 t2 t3 : TE} {x y z v : V} {D : Ends} {u1 u2 : TS} {g1 : TG}
theorem Vr.weak {R S : V → Hp → Prop} (h : Vr t1 σ H R) (k : ∀ v H1, R v H1 → S v H1) : Vr t1 σ H S := fun H1 Q g q => h H1 Q g fun v H2 g2 r => q v H2 g2 (k v H2 r)
theorem l_catN {xs ys : List V} (a : Ls t1 σ H xs) (b : Ls t2 σ H ys) (n : xs.length + ys.length ≤ 100000) : Ls (tOp rCat t1 t2) σ H (xs ++ ys) := fun H1 Q g q => a H1 _ g fun p H2 hp g2 e2 => b H2 _ (g.trans g2) fun w H3 hw g3 e3 => ⟨p, w, xs, ys, rfl, rfl, g3.lst e2, e3, small n, fun l hl => q l _ ((g2.trans g3).free hl) ((g2.trans g3).trans (.new hl)) upd_same⟩
theorem l_sliceN {tl th : TO} {xs : List V} {lo hi : Option Int} (h : Ls t1 σ H xs) (h1 : Pt tl σ H lo) (h2 : Pt th σ H hi) : Ls (tSl (rSlL K) t1 tl th) σ H (cutV xs lo hi) := fun H1 _ g q =>
  h H1 _ g fun p H2 hp g2 e2 => h1 H2 _ (g.trans g2) fun H3 g3 => h2 H3 _ ((g.trans g2).trans g3) fun H4 g4 => ⟨p, xs, rfl, SqL.of ((g3.trans g4).lst e2), fun b hb => q b _ (((g2.trans g3).trans g4).free hb) (((g2.trans g3).trans g4).trans (.new hb)) upd_same⟩
theorem B_forN {xs : List V} (h : Ls t1 σ H xs) (Pv : Addr → Nat → L2.St → Hp → Prop) (h0 : ∀ a H1, H a = none → Gr H H1 → H1 a = some (.lst xs) → Pv a 0 σ H1) (hl : ∀ a m σ' H', m ≤ xs.length → Pv a m σ' H' → SqL K H' a xs)
    (hs : ∀ a m x σ' H', xs[m]? = some x → Pv a m σ' H' → g1 x σ' H' fun σ2 H2 => u1 { D with nx := Pv a (m + 1), ct := Pv a (m + 1), bk := u2 D } σ2 H2) (hd : ∀ a σ' H', Pv a xs.length σ' H' → u2 D σ' H') : tSeq (tFor (iList K t1) g1 u1) u2 D σ H :=
  h H _ (.refl _) fun a H1 ha g e => ⟨a, rfl, ⟨xs, SqL.of e⟩, for_list (D := { D with nx := u2 D }) (Pv a) (h0 a H1 ha g e) (hl a) (hs a) (hd a)⟩
theorem cutV_mem {xs : List V} {lo hi : Option Int} {x : V} (h : x ∈ cutV xs lo hi) : x ∈ xs := List.mem_of_mem_drop (List.mem_of_mem_take h)
theorem cutV_len (xs : List V) (lo hi : Option Int) : (cutV xs lo hi).length ≤ xs.length := by
  unfold cutV
  rw [List.length_take, List.length_drop]
  omega
end
theorem TupsAt.mem {α : Type} {f : α → List V} {H : Hp} : ∀ {vs : List V} {l : List α} {x : V}, TupsAt H f vs l → x ∈ vs → ∃ p e, x = .ref p ∧ e ∈ l ∧ H p = some (.tup (f e))
  | _, _, _, .nil, h => by cases h
  | _, _, x, .cons k t, h => by
    rcases List.mem_cons.mp h with rfl | h
    · exact ⟨_, _, rfl, List.mem_cons_self, k⟩
    · obtain ⟨p, e, a, b, c⟩ := t.mem h
      exact ⟨p, e, a, List.mem_cons_of_mem _ b, c⟩
theorem TupsAt.via {α β : Type} {f : α → List V} {g : β → List V} {F : α → β} {H : Hp} (hf : ∀ a, f a = g (F a)) : ∀ {vs : List V} {l : List α}, TupsAt H f vs l → TupsAt H g vs (l.map F)
  | _, _, .nil => .nil
  | _, _, .cons k t => .cons (by rw [← hf]; exact k) (TupsAt.via hf t)
def pairRow (p : Str × Str) : JRow := [p.1, p.2]
theorem TupsAt.pairs {H : Hp} {vs : List V} {l : List (Str × Str)} (t : TupsAt H P2.vs vs l) : TupsAt H JRow.vs vs (l.map pairRow) := t.via (F := pairRow) fun _ => rfl
def Pok (p : Str × Str) : Prop := nameB p.1 = true ∧ (p.2 = rd ∨ p.2 = wr)
theorem Pok.good {p : Str × Str} (h : Pok p) : (pairRow p).good := by
  obtain ⟨_, n2, n3⟩ := nameB_is h.1
  refine ⟨by simp [pairRow], by simp [pairRow], fun s hs => ?_⟩
  simp only [pairRow, List.mem_cons, List.not_mem_nil, or_false] at hs
  rcases hs with rfl | rfl
  · exact ⟨n3.asc, by omega⟩
  · have := word_asc (w := p.2) (by rcases h.2 with e | e <;> rw [e] <;> decide)
    exact ⟨this.1, by omega⟩
theorem pairs_good {l : List (Str × Str)} (h : ∀ p ∈ l, Pok p) : ∀ r ∈ l.map pairRow, r.good := fun r hr => by
  obtain ⟨p, hp, rfl⟩ := List.mem_map.mp hr
  exact (h p hp).good
theorem range_get {α β : Type} (l : List α) (d : α) (f : α → β) : (List.range l.length).map (fun m => f (l.getD m d)) = l.map f := by
  refine List.ext_getElem? fun i => ?_
  rw [List.getElem?_map, List.getElem?_map]
  by_cases h : i < l.length
  · rw [List.getElem?_range h, List.getElem?_eq_getElem h, Option.map_some, List.getD_eq_getElem?_getD, List.getElem?_eq_getElem h]
    rfl
  · rw [List.getElem?_eq_none (by rw [List.length_range]; omega), List.getElem?_eq_none (by omega)]
    rfl
theorem Now.ok.qpok {s : Now} (o : s.ok) : ∀ p ∈ s.queue.map QE.pair, Pok p := fun p hp => by
  obtain ⟨e, he, rfl⟩ := List.mem_map.mp hp
  exact o.qn e he
theorem find_own : ∀ {l : List QE} {e : QE} {k : Nat}, (l.map QE.who).Nodup → e ∈ l → ∃ j, findAt e.who l k = some (k + j) ∧ l[j]? = some e
  | [], _, _, _, h => by cases h
  | x :: l, e, k, nd, h => by
    have nd' := List.nodup_cons.mp nd
    rcases List.mem_cons.mp h with rfl | h
    · exact ⟨0, if_pos rfl, rfl⟩
    · obtain ⟨j, hj, he⟩ := find_own (k := k + 1) nd'.2 h
      refine ⟨j + 1, ?_, he⟩
      unfold findAt
      rw [if_neg (fun w => nd'.1 (by rw [w]; exact List.mem_map.mpr ⟨e, h, rfl⟩)), hj]
      congr 1
      omega
theorem Now.ok.waits {s : Now} (o : s.ok) {e : QE} (h : e ∈ s.queue) : s.known e.who = true ∧ s.isIn e.who = false := by
  have m : e.who ∈ s.queue.map QE.who := List.mem_map.mpr ⟨e, h, rfl⟩
  have ni : s.isIn e.who = false := by
    unfold Now.isIn
    rw [decide_eq_false (fun w => o.apart w m), Bool.false_or, decide_eq_false (fun w => (o.ad _ w).2 m)]
  refine ⟨?_, ni⟩
  rw [Now.known_is, ni, decide_eq_true m]
  rfl
theorem sv_passed {K : PySem.W.Frag} {P : Addr} {H : Hp} {r : Rm} {e : QE} (h : r.At K P H) (o : r.s.ok) (he : e ∈ r.s.queue) : SpV (spPassed K P) [.ref r.p, .str e.who] H (.int e.often) := fun H1 Q E g q => by
  obtain ⟨k1, k2⟩ := o.waits he
  refine ⟨r, _, rfl, h.mono g, o, things (name_len (o.qn e he).1), ?_⟩
  unfold refPassed
  rw [if_pos (show knownV r.s (.str e.who) = true from k1), if_neg (show ¬ insideV r.s (.str e.who) = true by rw [show insideV r.s (.str e.who) = r.s.isIn e.who from rfl, k2]; exact Bool.false_ne_true)]
  rintro z j u ez hj hu
  cases ez
  obtain ⟨j2, hj2, he2⟩ := find_own (k := 0) o.qnd he
  rw [hj2] at hj
  cases hj
  rw [Nat.zero_add, he2] at hu
  cases hu
  exact q
def spSame (K : PySem.W.Frag) (P : Addr) : Sp := fun vs H Q _ => ∃ (r : Rm) (n : Nat) (pn : Addr) (k : Nat), vs = [.ref r.p, .ref pn, .int (k : Int)] ∧ r.At K P H ∧ r.fine n ∧ NowAt noL H pn r.s ∧ RV (.bl true) H Q
theorem sv_same {K : PySem.W.Frag} {P : Addr} {H : Hp} {r : Rm} {n : Nat} {pn : Addr} {k : Nat} (h : r.At K P H) (f : r.fine n) (hN : NowAt noL H pn r.s) : SpV (spSame K P) [.ref r.p, .ref pn, .int (k : Int)] H (.bl true) := fun H1 Q E g q => ⟨r, n, pn, k, rfl, h.mono g, f, hN.mono g, q⟩
theorem strs_asc {l : List Str} (h : ∀ x ∈ l, nameB x = true) : ∀ a ∈ l, Asc a := fun a ha => (nameB_is (h a ha)).2.2.asc
theorem scal_oo (a b : Option Str) : scal (optV a) (optV b) = true := by cases a <;> cases b <;> rfl
theorem v_neg {σ : L2.St} {H : Hp} {t1 : TE} {i : Int} (h : Vl t1 σ H (.int i)) : Vl (tUn (rU fun i => .int (-i)) t1) σ H (.int (-i)) := v_un h fun H1 Q g q => ⟨i, rfl, q⟩
theorem v_maxL {K : PySem.W.Frag} {σ : L2.St} {H : Hp} {t1 : TE} {ns : List Int} (h : Ls t1 σ H (ns.map V.int)) (h0 : 0 < ns.length) : Vr (tCB (rMax K) (tCons t1 tNil)) σ H (fun v _ => ∃ m, v = .int m ∧ m ∈ ns ∧ ∀ y ∈ ns, y ≤ m) := fun H1 Q g q => h H1 _ g fun p H2 hp g2 e => ⟨p, ns, rfl, SqL.of e, h0, fun m hm hmax => q _ H2 g2 ⟨m, rfl, hm, hmax⟩⟩
theorem bi_is {r : R2} {x y z u : V} {H : Hp} (h : Bi r x y H z) (e : z = u) : Bi r x y H u := e ▸ h
/-- a comprehension over a list of tuples that an expression gives -/
theorem r_cmpW {K : PySem.W.Frag} {σ : L2.St} {H : Hp} {t1 t2 : TE} {α : Type} {f : α → List V} {l : List α} {j : Nat} {ws : List Nat} (val : α → V) (h : Vr t2 σ H (fun v H1 => ∃ p ya, v = .ref p ∧ H1 p = some (.lst ya) ∧ TupsAt H1 f ya l)) (hz : l.length ≤ 40000) (hw : ∀ x, wipe ((wipe σ ws).set j (some x)) ws = wipe σ ws)
    (he : ∀ (e : α) (p : Addr) H1, Gr H H1 → e ∈ l → H1 p = some (.tup (f e)) → Vl t1 ((wipe σ ws).set j (some (.ref p))) H1 (val e)) : Vr (tLc (iList K t2) (gName j) tYes t1 ws) σ H (fun v H1 => ∃ p, v = .ref p ∧ H1 p = some (.lst (l.map val))) := fun H0 Q g q => h H0 _ g fun v H1 g1 ⟨a, ya, ev, ha, ta⟩ => by
  subst ev
  exact ⟨a, rfl, ⟨ya, SqL.of ha⟩, fun p hp => lc_list (xs := ya) (fun m H' => H1 p = none ∧ Gr H1 H' ∧ H' p = some (.lst ((l.take m).map val))) ⟨hp, .new hp, upd_same⟩ (fun _ H' _ w => SqL.of (w.2.1.lst ha)) (fun m x H' hm ⟨w1, w2, w3⟩ => by
    have lt := ta.length
    have hm' : m < l.length := by
      have := (List.getElem?_eq_some_iff.mp hm).1
      omega
    obtain ⟨pt, hpt, ht⟩ := ta.get m (List.getElem?_eq_getElem hm')
    rw [hm] at hpt
    obtain rfl := Option.some.inj hpt
    refine ⟨hw _, s_yes H' _ (.refl _) fun H3 g3 => iteT (he l[m] pt H3 (((g.trans g1).trans w2).trans g3) (List.getElem_mem _) ((w2.trans g3).tup ht) H3 _ (.refl _) fun H4 g4 => ⟨_, g4.lst (g3.lst w3), small' (by rw [List.length_map, List.length_take]; omega), w1, ((w2.trans g3).trans g4).chg w1, ?_⟩)⟩
    rw [upd_same, List.take_succ, List.getElem?_eq_getElem hm', Option.toList_some, List.map_append]
    rfl) fun H' ⟨w1, w2, w3⟩ => q _ H' (g1.trans w2) ⟨p, rfl, by
      rw [List.take_of_length_le (by rw [ta.length]; exact Nat.le_refl _)] at w3
      exact w3⟩⟩
theorem r_linenames {K : PySem.W.Frag} {P : Addr} {σ : L2.St} {H : Hp} {t1 : TE} {E : XK} {r : Rm} {j : Nat} {ws : List Nat} (hv : Vl t1 σ H (.ref r.p)) (h : r.At K P H) (hw : ∀ x, wipe ((wipe σ ws).set j (some x)) ws = wipe σ ws) (hj : ∀ x : V, ((wipe σ ws).set j (some x))[j]? = some (some x)) (n : r.s.queue.length ≤ 10000) :
    Vr (tLc (iList K (tMeth (He.ga K "Room") "line" (spLine K P) [] E t1 tNil)) (gName j) tYes (tOp (rIxT K) (tVar j) (tC (.int 0))) ws) σ H (fun v H1 => ∃ p, v = .ref p ∧ H1 p = some (.lst ((r.s.queue.map QE.who).map V.str))) := by
  refine Vr.weak (r_cmpW (f := P2.vs) (l := r.s.queue.map QE.pair) (fun e => V.str e.1) (Vr.weak (r_meth hv h.ins rfl g_nil (sr_line h n)) fun v H1 ⟨la, ya, ev, _, b, c⟩ => ⟨la, ya, ev, b, c⟩) (by rw [List.length_map]; omega) hw fun e p H1 g _ hp => v_op (v_slot (hj _)) v_con (bi_ixT (SqT.of hp) rfl)) fun v H1 ⟨p, ev, hp⟩ => ⟨p, ev, ?_⟩
  rw [hp, List.map_map, List.map_map]
  rfl

/-! ### the laws' common steps -/
/-- a list that the room's deeds leave alone -/
def SqO (K : PySem.W.Frag) (L : Addr → Prop) (H : Hp) (a : Addr) (xs : List V) : Prop := (Rd H a (.lst xs) ∧ ¬ L a) ∨ ∀ H', SqL K H' a xs
theorem SqO.sl {K : PySem.W.Frag} {L : Addr → Prop} {H : Hp} {a : Addr} {xs : List V} (h : SqO K L H a xs) : SqL K H a xs := h.elim (fun z => .inl z.1) fun z => z H
theorem SqO.ch {K : PySem.W.Frag} {L : Addr → Prop} {H H' : Hp} {a : Addr} {xs : List V} (c : Ch L H H') (h : SqO K L H a xs) : SqO K L H' a xs := h.imp (fun ⟨z, n⟩ => ⟨c.rd z n (fun _ e => by cases e), n⟩) id
theorem SqO.of {K : PySem.W.Frag} {L : Addr → Prop} {H0 H : Hp} {a : Addr} {xs : List V} (h : SqL K H0 a xs) (g : Gr H0 H) (n : ∀ b, L b → H0 b = none) : SqO K L H a xs := by
  rcases h with h | h
  · refine .inl ⟨g.rd h fun _ e => (by cases e), fun l => ?_⟩
    have := n a l
    rcases h with h | ⟨o, h⟩ <;> (rw [h] at this; cases this)
  · exact .inr fun H' => .inr h
theorem NowAt.ch {L : Addr → Prop} {H H' : Hp} {p : Addr} {s : Now} (c : Ch L H H') (n : ∀ b, L b → ∀ ts, H b ≠ some (.tup ts)) (h : NowAt L H p s) : NowAt L H' p s := let ⟨q, r, xs, h1, h2, h3, h4, l1, l2, l3⟩ := h; ⟨q, r, xs, c.dK h1 l1, c.lst h2 l2, h3.ch c n, c.lst h4 l3, l1, l2, l3⟩
/-- what the law holds beside the room: the script, the people, the deeds -/
structure Ctx (K : PySem.W.Frag) (L : Addr → Prop) (a pp pd : Addr) (ns : List Int) (ps : List Str) (ys : List V) (ds : List Deed) (H : Hp) : Prop where
  scr : SqO K L H a (ns.map V.int)
  ppl : H pp = some (.lst (ps.map V.str))
  lp : ¬ L pp
  dds : H pd = some (.lst ys)
  tds : TupsAt H Deed.vs ys ds
  ld : ¬ L pd
theorem Ctx.ch {K : PySem.W.Frag} {L : Addr → Prop} {a pp pd : Addr} {ns : List Int} {ps : List Str} {ys : List V} {ds : List Deed} {H H' : Hp} (c : Ch L H H') (n : ∀ b, L b → ∀ ts, H b ≠ some (.tup ts)) (h : Ctx K L a pp pd ns ps ys ds H) : Ctx K L a pp pd ns ps ys ds H' := ⟨h.scr.ch c, c.lst h.ppl h.lp, h.lp, c.lst h.dds h.ld, h.tds.ch c n, h.ld⟩
theorem Ctx.mono {K : PySem.W.Frag} {L : Addr → Prop} {a pp pd : Addr} {ns : List Int} {ps : List Str} {ys : List V} {ds : List Deed} {H H' : Hp} (g : Gr H H') (h : Ctx K L a pp pd ns ps ys ds H) : Ctx K L a pp pd ns ps ys ds H' := ⟨h.scr.ch (.of g), g.lst h.ppl, h.lp, g.lst h.dds, h.tds.mono g, h.ld⟩
theorem Rm.At.live {K : PySem.W.Frag} {P : Addr} {H : Hp} {r : Rm} (h : r.At K P H) : Live r.L H := fun b hb z => h.out z hb
section
variable {K : PySem.W.Frag} {P : Addr} {σ : L2.St} {H : Hp} {t1 t2 : TE} {D : Ends} {u1 : TS} {i : Nat}
theorem B_make {seats pat : Int} {E : XK} (h1 : Vl t1 σ H (.int seats)) (h2 : Vl t2 σ H (.int pat)) (hs : 1 ≤ seats ∧ seats ≤ 1000000000) (hp : 0 ≤ pat ∧ pat ≤ 1000000000) (hT : GxR.TabG H P)
    (k : ∀ (r : Rm) H1, Gr H H1 → r.At K P H1 → r.s = Now.none → r.rows = [] → r.seats = seats → r.pat = pat → (∀ b, r.L b → H b = none) → u1 D (σ.set i (some (.ref r.p))) H1) : tSeq (tAsg (tMake (He.ga K "Room") (spInit K P) [] E (tCons t1 (tCons t2 tNil))) (gName i)) u1 D σ H :=
  h1 H _ (.refl _) fun H1 g1 => h2 H1 _ g1 fun H2 g2 => fun y dx ny ndx ne => by
    have g := g1.trans g2
    have ny' : (upd H2 dx (.own y)) y = none := (upd_ne ne.symm).trans ny
    have gn : Gr H2 (upd (upd H2 dx (.own y)) y (.ins (He.ga K "Room") dx [])) := (Gr.new ndx).trans (.new ny')
    have nv : (numV 1 (.int seats) && numV 0 (.int pat)) = true := by
      show ((decide (1 ≤ seats) && decide (seats ≤ 1000000000)) && (decide (0 ≤ pat) && decide (pat ≤ 1000000000))) = true
      rw [decide_eq_true hs.1, decide_eq_true hs.2, decide_eq_true hp.1, decide_eq_true hp.2]
      rfl
    refine ⟨y, dx, .int seats, .int pat, rfl, upd_same, (g.trans gn).tab hT, .inl ⟨_, rfl⟩, .inl ⟨_, rfl⟩, (fun z => by rw [nv] at z; cases z), fun _ a s0 p0 H3 es ep ch n1 n2 n3 edx at_ => ⟨rfl, ?_⟩⟩
    cases es
    cases ep
    have c : Ch (fun x => x = y) H2 H3 := (Ch.of gn).trans ch
    have gr := c.toGr fun b hb => by rw [hb]; exact ny
    refine k ⟨y, a, seats, pat, Now.none, []⟩ H3 (g.trans gr) at_ rfl rfl rfl rfl fun b hb => ?_
    rcases hb with rfl | rfl | rfl | rfl
    · exact g.free ny
    · exact (g.trans gn).free n1
    · exact (g.trans gn).free n2
    · exact (g.trans gn).free n3
end
theorem Rm.fine.good {r : Rm} {n : Nat} (f : r.fine n) : r.s.good := by
  obtain ⟨o, l, hn⟩ := f
  have := l.ppl
  unfold Now.people at this
  exact ⟨⟨by omega, by omega⟩, o.qn, o.rn, o.an, fun x hx => o.rn x (o.ka x hx)⟩
theorem Rm.fine.small {r : Rm} {n : Nat} (f : r.fine n) : r.s.small := f.good.1
theorem none_ok : Now.none.ok := ⟨fun e h => absurd h List.not_mem_nil, fun e h => absurd h List.not_mem_nil, (fun x h => nomatch h), List.nodup_nil, (fun x h => nomatch h), (fun x h => nomatch h)⟩
theorem none_lim : Lim 0 Now.none [] := ⟨Nat.le_refl _, Nat.le_refl _⟩
def spLaw (K : PySem.W.Frag) (P : Addr) : Sp := fun vs H Q _ => ∃ (a : Addr) (ns : List Int), vs = [.ref a] ∧ SqL K H a (ns.map V.int) ∧ GxR.TabG H P ∧ ns.length ≤ 63 ∧ ∀ H', Q (.bl true) H'
theorem law_pre {K : PySem.W.Frag} {mg : Str → Option Value} (T : Top K mg) (H : Hp) (a : Addr) (ns : List Int) (hl : ns.length ≤ 63) (hS : SqL K H a (ns.map V.int)) (ht : ∀ p ∈ [(T.co_IsName, T.ta_IsName)], GxR.TabG H p.2) : spLaw K T.ta_IsName [.ref a] H (fun v _ => v = .bl true) fun _ _ _ => False :=
  ⟨a, ns, rfl, hS, ht _ List.mem_cons_self, hl, fun _ => rfl⟩
theorem Ag_is {σ : L2.St} {H : Hp} {a1 : TA} {vs ws : List V} (h : Ag a1 σ H vs) (e : vs = ws) : Ag a1 σ H ws := e ▸ h
theorem Rm.fine.succ {r : Rm} {n : Nat} (f : r.fine n) (h : n < 5000) : r.fine (n + 1) := ⟨f.1, ⟨by have := f.2.1.book; omega, by have := f.2.1.ppl; omega⟩, h⟩
theorem settles_cons {seats pat : Int} {s s' : Now} {p : Str × Str} {l : List (Str × Str)} (h : Settles seats pat s (p :: l) s') : ∃ i, s.next seats pat = some i ∧ p = s.pr i ∧ Settles seats pat (s.began i) l s' := by
  cases h with
  | step e k => exact ⟨_, e, rfl, k⟩
theorem settles_nil {seats pat : Int} {s s' : Now} (h : Settles seats pat s [] s') : s = s' := by
  cases h with
  | stop _ => rfl
theorem next_place_of {s : Now} {seats pat i : Int} (h : s.next seats pat = some i) (o : s.ok) : i = -1 ∨ ∃ m : Nat, i = m ∧ m < s.queue.length := by
  rcases next_cases h fun e he => (o.qn e he).2 with ⟨rfl, _⟩ | ⟨m, e, rfl, he, _⟩
  · exact .inl rfl
  · exact .inr ⟨m, rfl, (List.getElem?_eq_some_iff.mp he).1⟩
theorem Now.ok.good {s : Now} (o : s.ok) (h : s.people ≤ 10000) : s.good := by
  unfold Now.people at h
  exact ⟨⟨by omega, by omega⟩, o.qn, o.rn, o.an, fun x hx => o.rn x (o.ka x hx)⟩
/-- the people's list is none of a new room's own -/
theorem no_people {K : PySem.W.Frag} {P : Addr} {H : Hp} {r : Rm} {pp : Addr} {ps : List Str} (h : r.At K P H) (es : r.s = Now.none) (er : r.rows = []) (hpp : H pp = some (.lst (ps.map V.str))) (lp : 1 ≤ ps.length) : ¬ r.L pp := fun z => by
  obtain ⟨xs0, hx0, tx0⟩ := h.line
  obtain ⟨ys0, hy0, ty0⟩ := h.book
  have l1 := tx0.length
  have l2 := ty0.length
  rw [es] at l1
  rw [er] at l2
  rcases z with rfl | rfl | rfl | rfl
  · rw [h.ins] at hpp; cases hpp
  · rw [h.dict] at hpp; cases hpp
  · rw [hx0] at hpp
    cases hpp
    rw [List.length_map] at l1
    change ps.length = 0 at l1
    omega
  · rw [hy0] at hpp
    cases hpp
    rw [List.length_map] at l2
    change ps.length = 0 at l2
    omega
section
variable {K : PySem.W.Frag} {σ : L2.St} {H : Hp} {t1 t2 : TE}
theorem l_cat2 {p q : Addr} {xs ys : List V} (a : Vl t1 σ H (.ref p)) (hp : H p = some (.lst xs)) (b : Vl t2 σ H (.ref q)) (hq : H q = some (.lst ys)) (n : xs.length + ys.length ≤ 100000) : Ls (tOp rCat t1 t2) σ H (xs ++ ys) := fun H1 Q g r => a H1 _ g fun H2 g2 => b H2 _ (g.trans g2) fun H3 g3 => ⟨p, q, xs, ys, rfl, rfl, ((g.trans g2).trans g3).lst hp, ((g.trans g2).trans g3).lst hq, small n, fun l hl => r l _ ((g2.trans g3).free hl) ((g2.trans g3).trans (.new hl)) upd_same⟩
end
section
variable {K : PySem.W.Frag} {σ : L2.St} {H : Hp} {t1 t2 : TE} {D : Ends} {u1 : TS}
theorem S_appR {l : Addr} {xs : List V} {R : V → Hp → Prop} (hl : H l = some (.lst xs)) (a : Vl t1 σ H (.ref l)) (h : Vr t2 σ H R) (n : xs.length < 100000) (k : ∀ v H1, Gr H H1 → R v H1 → D.nx σ (upd H1 l (.lst (xs ++ [v])))) : tDrop (tBM K "list" rAppend t1 (tCons t2 tNil)) D σ H := a H _ (.refl _) fun H1 g =>
  ⟨.inl ⟨rfl, xs, SqL.of (g.lst hl)⟩, h H1 _ g fun v H2 g2 e => ⟨l, xs, v, rfl, rfl, g2.lst (g.lst hl), small' n, k v H2 (g.trans g2) e⟩⟩
theorem B_appR {l : Addr} {xs : List V} {R : V → Hp → Prop} (hl : H l = some (.lst xs)) (a : Vl t1 σ H (.ref l)) (h : Vr t2 σ H R) (n : xs.length < 100000) (k : ∀ v H1, Gr H H1 → R v H1 → u1 D σ (upd H1 l (.lst (xs ++ [v])))) : tSeq (tDrop (tBM K "list" rAppend t1 (tCons t2 tNil))) u1 D σ H := S_appR (D := { D with nx := u1 D }) hl a h n k
end

--CUT
/-! ### pairs that begin, rows of a journal -/
theorem next_pok {s : Now} {seats pat i : Int} (o : s.ok) (h : s.next seats pat = some i) : Pok (s.pr i) := by
  rcases next_cases h fun e he => (o.qn e he).2 with ⟨rfl, a, ha, _⟩ | ⟨m, e, rfl, he, _⟩
  · rw [pr_ask ha]
    exact ⟨o.rn a (o.ka a ha), .inr rfl⟩
  · rw [pr_at he]
    exact o.qn e (List.mem_of_getElem? he)
theorem Settles.pok {seats pat : Int} {s s' : Now} {l : List (Str × Str)} (h : Settles seats pat s l s') : s.ok → ∀ p ∈ l, Pok p := by
  induction h with
  | stop _ => exact fun _ p hp => absurd hp List.not_mem_nil
  | step e _ ih =>
    intro o p hp
    rcases List.mem_cons.mp hp with rfl | hp
    · exact next_pok o e
    · exact ih (o.began e) p hp
theorem pair_of {s : Now} {seats pat i : Int} (o : s.ok) (h : s.next seats pat = some i) : s.pair i (s.pr i).1 (s.pr i).2 := by
  rcases next_cases h fun e he => (o.qn e he).2 with ⟨rfl, a, ha, _⟩ | ⟨m, e, rfl, he, _⟩
  · rw [pr_ask ha]
    exact .inl ⟨rfl, ha, rfl⟩
  · rw [pr_at he]
    exact .inr ⟨m, e, rfl, he, rfl, rfl⟩
theorem beg_ok {p : Str × Str} (h : Pok p) : (begRow p).ok := ⟨"begins", p.1, h.1, .inl ⟨.inr rfl, p.2, h.2, rfl⟩⟩
theorem beg_good {p : Str × Str} (h : Pok p) : (begRow p).good := (beg_ok h).good
theorem deed_ok {d : Deed} (g : d.good) : d.row.ok := by
  unfold Deed.row
  rcases g.1 with e | e | e | e
  · rw [if_pos e, e]
    exact ⟨"came", d.who, g.2.1, .inl ⟨.inl rfl, d.wish, g.2.2, rfl⟩⟩
  · rw [if_neg (by rw [e]; decide +kernel), e]
    exact ⟨"left", d.who, g.2.1, .inr ⟨.inl rfl, rfl⟩⟩
  · rw [if_neg (by rw [e]; decide +kernel), e]
    exact ⟨"asked", d.who, g.2.1, .inr ⟨.inr (.inl rfl), rfl⟩⟩
  · rw [if_neg (by rw [e]; decide +kernel), e]
    exact ⟨"eased", d.who, g.2.1, .inr ⟨.inr (.inr rfl), rfl⟩⟩
theorem deed_good {d : Deed} (g : d.good) : d.row.good := (deed_ok g).good
theorem NowAt.more {L : Addr → Prop} {H : Hp} {p x : Addr} {s : Now} (n : H x = Option.none) (h : NowAt L H p s) : NowAt (fun b => L b ∨ b = x) H p s := let ⟨q, r, xs, h1, h2, h3, h4, l1, l2, l3⟩ := h
  ⟨q, r, xs, h1, h2, h3, h4, fun z => z.elim l1 (fun e => by rw [e, n] at h1; cases h1), fun z => z.elim l2 (fun e => by rw [e, n] at h2; cases h2), fun z => z.elim l3 (fun e => by rw [e, n] at h4; cases h4)⟩
theorem NowAt.weak {L M : Addr → Prop} {H : Hp} {p : Addr} {s : Now} (k : ∀ b, M b → L b) (h : NowAt L H p s) : NowAt M H p s := let ⟨q, r, xs, h1, h2, h3, h4, l1, l2, l3⟩ := h
  ⟨q, r, xs, h1, h2, h3, h4, fun z => l1 (k _ z), fun z => l2 (k _ z), fun z => l3 (k _ z)⟩
theorem S_cont {D : Ends} {σ : L2.St} {H : Hp} (h : D.ct σ H) : tCont D σ H := h
theorem atI_last {α : Type} (xs : List α) (x : α) : atI (xs ++ [x]) (-1) = some x := by
  unfold atI ixN
  rw [List.length_append, List.length_singleton, if_neg (by omega), if_pos (by omega)]
  show (xs ++ [x])[((-1 : Int) + ((xs.length + 1 : Nat) : Int)).toNat]? = some x
  rw [show ((-1 : Int) + ((xs.length + 1 : Nat) : Int)).toNat = xs.length by omega]
  simp
theorem RoomAt.beside {K : PySem.W.Frag} {P p : Addr} {H H' : Hp} {a : RAd} {seats pat : Int} {s : Now} {rows : List JRow} {L : Addr → Prop} (c : Ch L H H') (r : RoomAt K P H p a seats pat s rows) (n : ∀ b, Fp p a b → ¬ L b) (nt : ∀ b, L b → ∀ ts, H b ≠ some (.tup ts)) (nP : ¬ L P) : RoomAt K P H' p a seats pat s rows := by
  obtain ⟨xs, h1, t1⟩ := r.line
  obtain ⟨ys, h2, t2⟩ := r.book
  exact ⟨c.ins r.ins (n _ (.inl rfl)), c.dK r.dict (n _ (.inr (.inl rfl))), ⟨xs, c.lst h1 (n _ (.inr (.inr (.inl rfl)))), t1.ch c nt⟩, ⟨ys, c.lst h2 (n _ (.inr (.inr (.inr rfl)))), t2.ch c nt⟩, r.ne, c.tab r.tab nP⟩
theorem Rm.At.put {K : PySem.W.Frag} {P : Addr} {H : Hp} {r : Rm} {q : Addr} {us : List V} {o : HO} (h : r.At K P H) (hq : H q = some (.lst us)) (n : ¬ r.L q) : r.At K P (upd H q o) :=
  RoomAt.beside (L := fun x => x = q) (Ch.put (.refl _) rfl) h (fun b hb e => n (by rw [← e]; exact hb)) (fun b e ts z => by rw [e, hq] at z; cases z) fun e => by
    obtain ⟨ps, z, _⟩ := RoomAt.tab h
    rw [e, hq] at z
    cases z
def Mw (r : Rm) (x : Addr) : Addr → Prop := fun b => r.L b ∨ b = x
def Mv (r : Rm) (x y z : Addr) : Addr → Prop := fun b => (Mw r x b ∨ b = z) ∨ b = y
section
variable {K : PySem.W.Frag} {σ : L2.St} {H : Hp} {t1 : TE} {a1 : TA} {z : V} {sp : Sp} {E : XK} {vs ds : List V}
/-- a call whose first argument is new -/
theorem v_callR {R : V → Hp → Prop} (h : Vr t1 σ H R) (mR : ∀ {v H1 H2}, Gr H1 H2 → R v H1 → R v H2) (a : Ag a1 σ H vs) (k : ∀ v H1, Gr H H1 → R v H1 → SpV sp ((v :: vs) ++ ds) H1 z) : Vl (tCall sp ds E (tCons t1 a1)) σ H z := fun H1 Q g q =>
  h H1 _ g fun v H2 g2 r => a H2 _ (g.trans g2) fun H3 g3 => k v H3 ((g.trans g2).trans g3) (mR g3 r) H3 _ _ (.refl _) fun H4 g4 => q H4 ((g2.trans g3).trans g4)
end
section
variable {K : PySem.W.Frag} {σ : L2.St} {H : Hp} {t1 : TE} {a1 : TA} {D : Ends} {p C dx : Addr} {fs : List (Str × V)} {m : Str} {vs ds : List V} {sp : Sp} {E : XK}
theorem S_meth (h : Vl t1 σ H (.ref p)) (e : H p = some (.ins C dx fs)) (l : fs.lookup m = none) (a : Ag a1 σ H vs) (k : ∀ H1, Gr H H1 → sp (.ref p :: (vs ++ ds)) H1 (fun _ H2 => D.nx σ H2) E) : tDrop (tMeth C m sp ds E t1 a1) D σ H := meth h e l a k
end

/-! ### rows of a journal, gone through -/
/-- the deed that a row tells of -/
def deedOf : JRow → Option Deed
  | [w, n, x] => if w = wCame then some ⟨w, n, x⟩ else none
  | [w, n] => if w = wLeft ∨ w = wAsked ∨ w = wEased then some ⟨w, n, rd⟩ else none
  | _ => none
theorem deedOf3 {w n x : Str} : deedOf [w, n, x] = if w = wCame then some ⟨w, n, x⟩ else none := rfl
theorem deedOf2 {w n : Str} : deedOf [w, n] = if w = wLeft ∨ w = wAsked ∨ w = wEased then some ⟨w, n, rd⟩ else none := rfl
theorem deedOf_row {row : JRow} {d : Deed} (ok : row.ok) (h : deedOf row = some d) : d.row = row ∧ d.good := by
  obtain ⟨w, n, hn, ⟨hw, x, hx, rfl⟩ | ⟨hw, rfl⟩⟩ := ok
  · rw [deedOf3] at h
    by_cases e : w = wCame
    · rw [if_pos e] at h
      obtain rfl := Option.some.inj h
      exact ⟨if_pos e, .inl e, hn, hx⟩
    · rw [if_neg e] at h
      cases h
  · rw [deedOf2] at h
    by_cases e : w = wLeft ∨ w = wAsked ∨ w = wEased
    · rw [if_pos e] at h
      obtain rfl := Option.some.inj h
      refine ⟨if_neg (show ¬ w = wCame from fun z => ?_), .inr e, hn, .inl rfl⟩
      rcases e with e | e | e <;> rw [e] at z <;> revert z <;> decide +kernel
    · rw [if_neg e] at h
      cases h
theorem deedOf_beg {p : Str × Str} : deedOf (begRow p) = none := by
  unfold begRow
  rw [deedOf3]
  exact if_neg (by decide +kernel)
theorem deedOf_deed {d : Deed} (g : d.good) : ∃ d', deedOf d.row = some d' ∧ d'.word = d.word ∧ d'.who = d.who ∧ (∀ s : Now, s.refused d' = s.refused d ∧ s.done d' = s.done d) := by
  obtain ⟨w, n, x⟩ := d
  obtain ⟨hw, _, _⟩ := g
  have n1 : ¬ wLeft = wCame := by decide +kernel
  have n2 : ¬ wAsked = wCame := by decide +kernel
  have n3 : ¬ wEased = wCame := by decide +kernel
  rcases hw with e | e | e | e
  · have e : w = wCame := e
    subst e
    exact ⟨⟨wCame, n, x⟩, rfl, rfl, rfl, fun s => ⟨rfl, rfl⟩⟩
  · have e : w = wLeft := e
    subst e
    rw [show (⟨wLeft, n, x⟩ : Deed).row = [wLeft, n] from if_neg n1, deedOf2]
    exact ⟨_, if_pos (.inl rfl), rfl, rfl, fun s => ⟨by rw [refused_left, refused_left], by rw [done_left, done_left]⟩⟩
  · have e : w = wAsked := e
    subst e
    rw [show (⟨wAsked, n, x⟩ : Deed).row = [wAsked, n] from if_neg n2, deedOf2]
    exact ⟨_, if_pos (.inr (.inl rfl)), rfl, rfl, fun s => ⟨by rw [refused_asked, refused_asked], by rw [done_asked, done_asked]⟩⟩
  · have e : w = wEased := e
    subst e
    rw [show (⟨wEased, n, x⟩ : Deed).row = [wEased, n] from if_neg n3, deedOf2]
    exact ⟨_, if_pos (.inr (.inr rfl)), rfl, rfl, fun s => ⟨by rw [refused_eased, refused_eased], by rw [done_eased, done_eased]⟩⟩
/-- the place of the first row that can't stand; none: all can, nobody has to begin -/
def gone (seats pat : Int) : Now → List (Option JRow) → Nat → Option Nat
  | s, [], k => match s.next seats pat with
    | some _ => some k
    | .none => .none
  | s, r :: rs, k => match s.next seats pat with
    | some i => if r = some (begRow (s.pr i)) then gone seats pat (s.began i) rs (k + 1) else some k
    | .none => match r with
      | .none => some k
      | some row => match deedOf row with
        | .none => some k
        | some d => if s.refused d = true then some k else gone seats pat (s.done d) rs (k + 1)
/-- where all rows lead -/
def goneTo (seats pat : Int) : Now → List (Option JRow) → Now
  | s, [] => s
  | s, r :: rs => match s.next seats pat with
    | some i => if r = some (begRow (s.pr i)) then goneTo seats pat (s.began i) rs else s
    | .none => match r with
      | .none => s
      | some row => match deedOf row with
        | .none => s
        | some d => if s.refused d = true then s else goneTo seats pat (s.done d) rs
section
variable {seats pat : Int} {s : Now} {r : Option JRow} {rs : List (Option JRow)} {k : Nat} {i : Int} {row : JRow} {d : Deed}
theorem gone_end (h : s.next seats pat = Option.none) : gone seats pat s [] k = Option.none := by unfold gone; rw [h]
theorem gone_due (h : s.next seats pat = some i) : gone seats pat s [] k = some k := by unfold gone; rw [h]
theorem gone_beg (h : s.next seats pat = some i) : gone seats pat s (r :: rs) k = (if r = some (begRow (s.pr i)) then gone seats pat (s.began i) rs (k + 1) else some k) := by
  rw [gone.eq_def]
  dsimp only
  rw [h]
theorem gone_bad : gone seats pat s (Option.none :: rs) k = some k := by
  cases h : s.next seats pat with
  | none =>
    rw [gone.eq_def]
    dsimp only
    rw [h]
  | some i => rw [gone_beg h]; exact if_neg (fun z => nomatch z)
theorem gone_no (h : s.next seats pat = Option.none) (hd : deedOf row = Option.none) : gone seats pat s (some row :: rs) k = some k := by
  rw [gone.eq_def]
  dsimp only
  rw [h]
  dsimp only
  rw [hd]
theorem gone_deed (h : s.next seats pat = Option.none) (hd : deedOf row = some d) : gone seats pat s (some row :: rs) k = (if s.refused d = true then some k else gone seats pat (s.done d) rs (k + 1)) := by
  rw [gone.eq_def]
  dsimp only
  rw [h]
  dsimp only
  rw [hd]
theorem goneTo_beg (h : s.next seats pat = some i) : goneTo seats pat s (some (begRow (s.pr i)) :: rs) = goneTo seats pat (s.began i) rs := by
  rw [goneTo.eq_def]
  dsimp only
  rw [h]
  exact if_pos rfl
theorem goneTo_deed (h : s.next seats pat = Option.none) (hd : deedOf row = some d) (rf : s.refused d = false) : goneTo seats pat s (some row :: rs) = goneTo seats pat (s.done d) rs := by
  rw [goneTo.eq_def]
  dsimp only
  rw [h]
  dsimp only
  rw [hd]
  exact if_neg (by rw [rf]; exact Bool.false_ne_true)
end
/-- all who begin, their rows gone through -/
theorem gone_settle {seats pat : Int} {s s' : Now} {l : List (Str × Str)} (h : Settles seats pat s l s') : ∀ (rs : List (Option JRow)) (k : Nat), gone seats pat s (l.map (fun p => some (begRow p)) ++ rs) k = gone seats pat s' rs (k + l.length) ∧ goneTo seats pat s (l.map (fun p => some (begRow p)) ++ rs) = goneTo seats pat s' rs := by
  induction h with
  | stop e => exact fun rs k => ⟨rfl, rfl⟩
  | step e _ ih =>
    intro rs k
    obtain ⟨a, b⟩ := ih rs (k + 1)
    rw [List.map_cons, List.cons_append, gone_beg e, if_pos rfl, goneTo_beg e, a, b, List.length_cons]
    exact ⟨by rw [Nat.add_assoc, Nat.add_comm 1], rfl⟩
theorem gone_app {seats pat : Int} : ∀ {l : List (Option JRow)} {s : Now} {k : Nat} (m : List (Option JRow)), gone seats pat s l k = Option.none → gone seats pat s (l ++ m) k = gone seats pat (goneTo seats pat s l) m (k + l.length) ∧ goneTo seats pat s (l ++ m) = goneTo seats pat (goneTo seats pat s l) m
  | [], s, k, m, h => ⟨rfl, rfl⟩
  | r :: l, s, k, m, h => by
    cases e : s.next seats pat with
    | some i =>
      rw [gone_beg e] at h
      by_cases er : r = some (begRow (s.pr i))
      · subst er
        rw [if_pos rfl] at h
        obtain ⟨a, b⟩ := gone_app m h
        rw [List.cons_append, gone_beg e, if_pos rfl, goneTo_beg e, goneTo_beg e, a, b, List.length_cons]
        exact ⟨by rw [Nat.add_assoc, Nat.add_comm 1], rfl⟩
      · rw [if_neg er] at h
        cases h
    | none =>
      cases r with
      | none => rw [gone_bad] at h; cases h
      | some row =>
        cases hd : deedOf row with
        | none => rw [gone_no e hd] at h; cases h
        | some d =>
          rw [gone_deed e hd] at h
          by_cases rf : s.refused d = true
          · rw [if_pos rf] at h
            cases h
          · rw [if_neg rf] at h
            have rf' := Bool.not_eq_true _ |>.mp rf
            obtain ⟨a, b⟩ := gone_app m h
            rw [List.cons_append, gone_deed e hd, if_neg rf, goneTo_deed e hd rf', goneTo_deed e hd rf', a, b, List.length_cons]
            exact ⟨by rw [Nat.add_assoc, Nat.add_comm 1], rfl⟩
theorem goneTo_rest {seats pat : Int} : ∀ {l : List (Option JRow)} {s : Now} {k : Nat}, gone seats pat s l k = Option.none → (goneTo seats pat s l).next seats pat = Option.none
  | [], s, k, h => by
    cases e : s.next seats pat with
    | none => exact e
    | some i => rw [gone_due e] at h; cases h
  | r :: l, s, k, h => by
    cases e : s.next seats pat with
    | some i =>
      rw [gone_beg e] at h
      by_cases er : r = some (begRow (s.pr i))
      · subst er
        rw [if_pos rfl] at h
        rw [goneTo_beg e]
        exact goneTo_rest h
      · rw [if_neg er] at h
        cases h
    | none =>
      cases r with
      | none => rw [gone_bad] at h; cases h
      | some row =>
        cases hd : deedOf row with
        | none => rw [gone_no e hd] at h; cases h
        | some d =>
          rw [gone_deed e hd] at h
          by_cases rf : s.refused d = true
          · rw [if_pos rf] at h
            cases h
          · rw [if_neg rf] at h
            rw [goneTo_deed e hd (Bool.not_eq_true _ |>.mp rf)]
            exact goneTo_rest h
/-- a deed that is done, and who begins behind it -/
theorem gone_done {seats pat : Int} {s s1 s' : Now} {l : List (Option JRow)} {d : Deed} {pr : List (Str × Str)} (h : gone seats pat s l 0 = Option.none) (es : goneTo seats pat s l = s1) (g : d.good) (rf : s1.refused d = false) (st : Settles seats pat (s1.done d) pr s') :
    gone seats pat s (l ++ (d.row :: pr.map begRow).map some) 0 = Option.none ∧ goneTo seats pat s (l ++ (d.row :: pr.map begRow).map some) = s' := by
  obtain ⟨a, b⟩ := gone_app ((d.row :: pr.map begRow).map some) h
  have nx := goneTo_rest h
  obtain ⟨d', hd, _, _, hs⟩ := deedOf_deed g
  rw [es] at a b nx
  obtain ⟨e1, e2⟩ := hs s1
  rw [a, b, List.map_cons, gone_deed nx hd, if_neg (by rw [e1, rf]; exact Bool.false_ne_true), goneTo_deed nx hd (by rw [e1, rf]), e2, List.map_map]
  obtain ⟨c1, c2⟩ := gone_settle st [] (0 + l.length + 1)
  rw [List.append_nil] at c1 c2
  exact ⟨by rw [show (some ∘ begRow : Str × Str → Option JRow) = (fun p => some (begRow p)) from rfl, c1, gone_end st.rest], by rw [show (some ∘ begRow : Str × Str → Option JRow) = (fun p => some (begRow p)) from rfl, c2]; rfl⟩
/-- things that stand where rows should: rows, or none -/
def RowAt (K : PySem.W.Frag) (H : Hp) (v : V) (o : Option JRow) : Prop := match o with
  | some row => row.ok ∧ ∃ p, v = .ref p ∧ H p = some (.tup row.vs)
  | .none => NoTup K v H ∨ ∃ p xs, v = .ref p ∧ H p = some (.tup xs) ∧ (∀ x ∈ xs, Thing K x H) ∧ rowV xs = false
theorem RowAt.mono {K : PySem.W.Frag} {H H' : Hp} {v : V} {o : Option JRow} (g : Gr H H') (h : RowAt K H v o) : RowAt K H' v o := by
  cases o with
  | some row =>
    obtain ⟨ok, p, e, hp⟩ := h
    exact ⟨ok, p, e, g.tup hp⟩
  | none =>
    rcases h with h | ⟨p, xs, e, hp, t, n⟩
    · exact .inl (h.mono g)
    · exact .inr ⟨p, xs, e, g.tup hp, fun x hx => (t x hx).mono g, n⟩
inductive RowsAt (K : PySem.W.Frag) (H : Hp) : List V → List (Option JRow) → Prop
  | nil : RowsAt K H [] []
  | cons {v : V} {o : Option JRow} {vs : List V} {l : List (Option JRow)} : RowAt K H v o → RowsAt K H vs l → RowsAt K H (v :: vs) (o :: l)
theorem RowsAt.mono {K : PySem.W.Frag} {H H' : Hp} (g : Gr H H') : ∀ {vs : List V} {l : List (Option JRow)}, RowsAt K H vs l → RowsAt K H' vs l
  | _, _, .nil => .nil
  | _, _, .cons h t => .cons (h.mono g) (t.mono g)
theorem RowsAt.length {K : PySem.W.Frag} {H : Hp} : ∀ {vs : List V} {l : List (Option JRow)}, RowsAt K H vs l → vs.length = l.length
  | _, _, .nil => rfl
  | _, _, .cons _ t => by rw [List.length_cons, List.length_cons, t.length]
theorem RowsAt.get {K : PySem.W.Frag} {H : Hp} : ∀ {vs : List V} {l : List (Option JRow)} {m : Nat} {v : V}, RowsAt K H vs l → vs[m]? = some v → ∃ o, l[m]? = some o ∧ RowAt K H v o
  | _, _, _, _, .nil, h => by simp at h
  | _, _, 0, _, .cons h _, e => by
    cases e
    exact ⟨_, rfl, h⟩
  | _, _, m + 1, _, .cons _ t, e => t.get (m := m) e
theorem RowsAt.of {K : PySem.W.Frag} {H : Hp} : ∀ {vs : List V} {l : List JRow}, TupsAt H JRow.vs vs l → (∀ r ∈ l, r.ok) → RowsAt K H vs (l.map some)
  | _, _, .nil, _ => .nil
  | _, _, .cons h t, g => .cons ⟨g _ List.mem_cons_self, _, rfl, h⟩ (RowsAt.of t fun r hr => g r (List.mem_cons_of_mem _ hr))
/-! ### what the program's defs promise -/
def spBegun (K : PySem.W.Frag) (P : Addr) : Sp := fun vs H Q _ => ∃ (r : Rm) (n : Nat) (t : Addr) (row : JRow), vs = [.ref r.p, .ref t] ∧ r.At K P H ∧ r.fine n ∧ H t = some (.tup row.vs) ∧ row.ok ∧
  ((∀ d, deedOf row = some d → r.s.refused d = true) → RV .non H Q) ∧ (∀ d, deedOf row = some d → r.s.refused d = false → RSet K P H r (r.s.done d) row Q)
/-- the room behind all rows -/
def spFirstW (K : PySem.W.Frag) (P : Addr) : Sp := fun vs H Q _ => ∃ (r : Rm) (n : Nat) (pl : Addr) (xs : List V) (l : List (Option JRow)) (H0 : Hp), vs = [.ref r.p, .ref pl] ∧ r.At K P H ∧ r.fine n ∧ n + l.length ≤ 5000 ∧ r.s.next r.seats r.pat = Option.none ∧ Gr H0 H ∧ (∀ b, r.L b → H0 b = Option.none) ∧ H0 pl = some (.lst xs) ∧ RowsAt K H0 xs l ∧
  ∀ H1, Ch r.L H H1 → (gone r.seats r.pat r.s l 0 = Option.none → ∃ rows, ({ r with s := goneTo r.seats r.pat r.s l, rows := rows } : Rm).At K P H1 ∧ ({ r with s := goneTo r.seats r.pat r.s l, rows := rows } : Rm).fine (n + l.length) ∧ rows.map some = r.rows.map some ++ l) → Q (natV (gone r.seats r.pat r.s l 0)) H1

--CUT
theorem ok_Begun (T : Top K mg) (TB : Tabs T base) : FnOk P w K mg base CX0 6 T.f_Begun T.fd_Begun ["room", "row"] (spBegun K T.ta_IsName) := by
  have GCome := ok_Come (P := P) (w := w) (base := base) T TB
  have GLeave := ok_Leave (P := P) (w := w) (base := base) T TB
  have GAsk := ok_Ask (P := P) (w := w) (base := base) T TB
  have GEase := ok_Ease (P := P) (w := w) (base := base) T TB
  refine T.F_Begun.ok scBegun (fun vs H Q E h => ?_) (fun cdv A outer s H vs Q E hr h => ?_)
  · obtain ⟨r, n, t, row, rfl, h, f, ht, hok, q1, q2⟩ := h
    rfl
  · obtain ⟨r, n, t, row, rfl, h, f, ht, hok, q1, q2⟩ := h
    refine ⟨_, (pss_cons (ps_set (i := 2) scBegun.nd rfl (Or.inl rfl) (pe_ix ix_tup (pv 1) pe_int (fun _ _ => rfl)))
      (pss_cons (ps_set (i := 3) scBegun.nd rfl (Or.inl rfl) (pe_ix ix_tup (pv 1) pe_int (fun _ _ => rfl)))
      (pss_cons (L2N.ps_try_many rfl rfl RX.takesN (fun W pn xe tk0 po0 => (pss_cons (ps_if (pt_cmpR op_eq (pv 2) (pe_glob (v := .str (Str.ofString "came")) rfl T.c_CAME ⟨_, rfl⟩) (nomark _))
      (pss_one (ps_ret (RX.pe_methA (pv 0) T.cl_Room T.M_Come GCome hr T.B_Come (fun σ => L2N.passAt tk0 σ) (pa_cons (pv 3) (pa_cons (pe_ix (r := rIxT K) ix_tup (pv 1) pe_int (fun _ _ => rfl)) pa_nil)))))
      pss_nil)
      (pss_cons (ps_if (pt_cmpR op_eq (pv 2) (pe_glob (v := .str (Str.ofString "left")) rfl T.c_LEFT ⟨_, rfl⟩) (nomark _))
      (pss_one (ps_ret (RX.pe_methA (pv 0) T.cl_Room T.M_Leave GLeave hr T.B_Leave (fun σ => L2N.passAt tk0 σ) (pa_cons (pv 3) pa_nil))))
      pss_nil)
      (pss_cons (ps_if (pt_cmpR op_eq (pv 2) (pe_glob (v := .str (Str.ofString "asked")) rfl T.c_ASKED ⟨_, rfl⟩) (nomark _))
      (pss_one (ps_ret (RX.pe_methA (pv 0) T.cl_Room T.M_Ask GAsk hr T.B_Ask (fun σ => L2N.passAt tk0 σ) (pa_cons (pv 3) pa_nil))))
      pss_nil)
      (pss_one (ps_if (pt_cmpR op_eq (pv 2) (pe_glob (v := .str (Str.ofString "eased")) rfl T.c_EASED ⟨_, rfl⟩) (nomark _))
      (pss_one (ps_ret (RX.pe_methA (pv 0) T.cl_Room T.M_Ease GEase hr T.B_Ease (fun σ => L2N.passAt tk0 σ) (pa_cons (pv 3) pa_nil))))
      pss_nil)))))) (.cons ⟨rfl, by decide, .inl T.gc_RoomError⟩ (fun a oe cls d pn hz hf => (pss_one (ps_ret pe_non))) .nil))
      (pss_one (ps_ret pe_non))))), ?_⟩
    refine slots (start_Begun _ _) ?_
    obtain ⟨o, lim, hn⟩ := id f
    have se : ∀ a b : Str, decide (V.str a = V.str b) = decide (a = b) := fun a b => decide_eq_decide.mpr ⟨V.str.inj, congrArg V.str⟩
    have caught : ∀ x : Str, (x = "Known" ∨ x = "Stranger" ∨ x = "Outside" ∨ x = "Writes" ∨ x = "Asked" ∨ x = "Reads") → PySem.W.exmOne K (.ref (He.ga K x)) (.ref (He.ga K "RoomError")) = some true := by
      rintro x (rfl | rfl | rfl | rfl | rfl | rfl)
      · exact T.e_Known_RoomError
      · exact T.e_Stranger_RoomError
      · exact T.e_Outside_RoomError
      · exact T.e_Writes_RoomError
      · exact T.e_Asked_RoomError
      · exact T.e_Reads_RoomError
    -- how a refusal ends
    have out : ∀ {e : Str} {H1 : Hp} {L : WX} {σ : L2.St} {D : Ends}, D.rt = Q → (∀ d, deedOf row = some d → r.s.refused d = true) → (e = "Known" ∨ e = "Stranger" ∨ e = "Outside" ∨ e = "Writes" ∨ e = "Asked" ∨ e = "Reads") → Gr H H1 → ∀ H2, Gr H1 H2 → wMany K L D [(.ref (He.ga K "RoomError"), fun a cls d => tRet (tC .non))] (.ref (He.ga K e)) none σ H2 := fun hD rf he g H2 g2 => ⟨true, caught _ he, fun _ a ha => by
      show Ends.rt _ .non H2
      rw [hD]
      exact q1 rf H2 (g.trans g2), fun z => nomatch z⟩
    obtain ⟨wd, z, hz, hrow⟩ := hok
    have hv : ∃ tl, row.vs = V.str wd :: V.str z :: tl := by rcases hrow with ⟨_, x, _, rfl⟩ | ⟨_, rfl⟩ <;> exact ⟨_, rfl⟩
    obtain ⟨tl, hv⟩ := hv
    have ht' := ht
    rw [hv] at ht'
    have tz : ∀ H1, Thing K (.str z) H1 := fun H1 => things (name_len hz)
    refine B_set (v_op (v_slot rfl) v_con (bi_ixT (SqT.of ht') (show atI _ ((0 : Nat) : Int) = _ from atI_nat rfl))) fun H1 e1 => ?_
    walk_at "n"
    refine B_set (v_op (v_slot rfl) v_con (bi_ixT (SqT.of (e1.tup ht')) (show atI _ ((1 : Nat) : Int) = _ from atI_nat rfl))) fun H2 e2 => ?_
    walk_at "n"
    have g2 := e1.trans e2
    show tSeq _ _ _ _ _
    refine B_when (b := decide (wd = wCame)) (Ts.is (s_test (v_op (v_slot rfl) v_con (bi_eq rfl))) (se _ _)) (fun hb H3 e3 => ?_) fun hb H3 e3 => ?_
    · obtain rfl := of_decide_eq_true hb
      obtain ⟨x, hx, rfl⟩ : ∃ x, (x = rd ∨ x = wr) ∧ row = [wCame, z, x] := by
        rcases hrow with ⟨_, x, hx, e⟩ | ⟨hw, e⟩
        · exact ⟨x, hx, e⟩
        · exact absurd hw (by decide +kernel)
      have g3 := g2.trans e3
      have hd : deedOf [wCame, z, x] = some ⟨wCame, z, x⟩ := rfl
      refine S_retMA (v_slot rfl) (h.mono g3).ins rfl (g_cons (v_slot rfl) (g_cons (v_op (v_slot rfl) v_con (bi_ixT (SqT.of (g3.tup ht)) rfl)) g_nil)) fun H4 e4 => ⟨r, n, _, _, rfl, (h.mono g3).mono e4, f, tz _, things (wish_len hx), ?_⟩
      have g4 := g3.trans e4
      rw [refCome_is hz hx]
      by_cases hk : r.s.known z = true
      · rw [if_pos hk]
        exact out rfl (fun d e => by cases e; rw [refused_came]; exact hk) (.inl rfl) g4
      · rw [if_neg hk]
        rintro z' x' ez ex
        cases ez
        cases ex
        exact fun H5 l xs pr s' c nl hl t st a => q2 _ hd (by rw [refused_came]; exact Bool.not_eq_true _ |>.mp hk) H5 l xs pr s' ((Ch.of g4).trans c) (g4.free nl) hl t st a
    have w0 := of_decide_eq_false hb
    have g3 := g2.trans e3
    refine B_when (b := decide (wd = wLeft)) (Ts.is (s_test (v_op (v_slot rfl) v_con (bi_eq rfl))) (se _ _)) (fun hb2 H4 e4 => ?_) fun hb2 H4 e4 => ?_
    · obtain rfl := of_decide_eq_true hb2
      obtain rfl : row = [wLeft, z] := by
        rcases hrow with ⟨hw, _⟩ | ⟨_, e⟩
        · exact absurd hw (by decide +kernel)
        · exact e
      have g4 := g3.trans e4
      have hd : deedOf [wLeft, z] = some ⟨wLeft, z, rd⟩ := rfl
      refine S_retMA (v_slot rfl) (h.mono g4).ins rfl (g_cons (v_slot rfl) g_nil) fun H5 e5 => ⟨r, n, _, rfl, (h.mono g4).mono e5, f, tz _, ?_⟩
      have g5 := g4.trans e5
      unfold refKnown
      by_cases hk : r.s.known z = true
      · rw [if_pos (show knownV r.s (.str z) = true from hk)]
        rintro z' ez
        cases ez
        exact fun H6 l xs pr s' c nl hl t st a => q2 _ hd (by rw [refused_left, hk]; rfl) H6 l xs pr s' ((Ch.of g5).trans c) (g5.free nl) hl t st a
      · rw [if_neg (show ¬ knownV r.s (.str z) = true from hk)]
        exact out rfl (fun d e => by cases e; rw [refused_left, Bool.not_eq_true _ |>.mp hk]; rfl) (.inr (.inl rfl)) g5
    have w1 := of_decide_eq_false hb2
    have g4 := g3.trans e4
    refine B_when (b := decide (wd = wAsked)) (Ts.is (s_test (v_op (v_slot rfl) v_con (bi_eq rfl))) (se _ _)) (fun hb3 H5 e5 => ?_) fun hb3 H5 e5 => ?_
    · obtain rfl := of_decide_eq_true hb3
      obtain rfl : row = [wAsked, z] := by
        rcases hrow with ⟨hw, _⟩ | ⟨_, e⟩
        · exact absurd hw (by decide +kernel)
        · exact e
      have g5 := g4.trans e5
      have hd : deedOf [wAsked, z] = some ⟨wAsked, z, rd⟩ := by rw [deedOf2]; exact if_pos (.inr (.inl rfl))
      refine S_retMA (v_slot rfl) (h.mono g5).ins rfl (g_cons (v_slot rfl) g_nil) fun H6 e6 => ⟨r, n, _, rfl, (h.mono g5).mono e6, f, tz _, ?_⟩
      have g6 := g5.trans e6
      rcases refAsk_is o (z := z) (x := rd) with ⟨rf, e⟩ | ⟨rf, k, e, hk⟩
      · rw [e]
        rintro z' ez
        cases ez
        exact fun H7 l xs pr s' c nl hl t st a => q2 _ hd rf H7 l xs pr s' ((Ch.of g6).trans c) (g6.free nl) hl t st a
      · rw [e]
        exact out rfl (fun d e => by rw [hd] at e; cases e; exact rf) (by rcases hk with rfl | rfl | rfl | rfl <;> simp) g6
    have w2 := of_decide_eq_false hb3
    have g5 := g4.trans e5
    refine S_when (b := decide (wd = wEased)) (Ts.is (s_test (v_op (v_slot rfl) v_con (bi_eq rfl))) (se _ _)) (fun hb4 H6 e6 => ?_) fun hb4 H6 e6 => ?_
    · obtain rfl := of_decide_eq_true hb4
      obtain rfl : row = [wEased, z] := by
        rcases hrow with ⟨hw, _⟩ | ⟨_, e⟩
        · exact absurd hw (by decide +kernel)
        · exact e
      have g6 := g5.trans e6
      have hd : deedOf [wEased, z] = some ⟨wEased, z, rd⟩ := by rw [deedOf2]; exact if_pos (.inr (.inr rfl))
      refine S_retMA (v_slot rfl) (h.mono g6).ins rfl (g_cons (v_slot rfl) g_nil) fun H7 e7 => ⟨r, n, _, rfl, (h.mono g6).mono e7, f, tz _, ?_⟩
      have g7 := g6.trans e7
      rcases refEase_is (s := r.s) (z := z) (x := rd) with ⟨rf, e⟩ | ⟨rf, k, e, hk⟩
      · rw [e]
        rintro z' ez
        cases ez
        exact fun H8 l xs pr s' c nl hl t st a => q2 _ hd rf H8 l xs pr s' ((Ch.of g7).trans c) (g7.free nl) hl t st a
      · rw [e]
        exact out rfl (fun d e => by rw [hd] at e; cases e; exact rf) (by rcases hk with rfl | rfl | rfl <;> simp) g7
    have w3 := of_decide_eq_false hb4
    have nd : deedOf row = none := by
      rcases hrow with ⟨_, x, _, rfl⟩ | ⟨_, rfl⟩
      · rw [deedOf3]
        exact if_neg w0
      · rw [deedOf2]
        exact if_neg fun z => z.elim w1 fun z => z.elim w2 w3
    dsimp only
    exact S_ret v_con fun H7 e7 => q1 (fun d e => by rw [nd] at e; cases e) H7 ((g5.trans e6).trans e7)
section
variable {K : PySem.W.Frag} {P : Addr} {σ : L2.St} {H : Hp} {t1 t2 : TE} {D : Ends} {u1 : TS} {i : Nat}
theorem B_begun {r : Rm} {n : Nat} {t : Addr} {row : JRow} {E : XK} (h1 : Vl t1 σ H (.ref r.p)) (h2 : Vl t2 σ H (.ref t)) (h : r.At K P H) (f : r.fine n) (ht : H t = some (.tup row.vs)) (ok : row.ok)
    (kr : (∀ d, deedOf row = some d → r.s.refused d = true) → ∀ H1, Gr H H1 → u1 D (σ.set i (some .non)) H1)
    (kd : ∀ d, deedOf row = some d → r.s.refused d = false → ∀ (H1 : Hp) (l : Addr) (xs : List V) (pr : List (Str × Str)) (s' : Now), Ch r.L H H1 → H l = none → H1 l = some (.lst xs) → TupsAt H1 P2.vs xs pr → Settles r.seats r.pat (r.s.done d) pr s' →
      ({ r with s := s', rows := r.rows ++ row :: pr.map begRow } : Rm).At K P H1 → (n < 5000 → ({ r with s := s', rows := r.rows ++ row :: pr.map begRow } : Rm).fine (n + 1)) → u1 D (σ.set i (some (.ref l))) H1) : tSeq (tAsg (tCall (spBegun K P) [] E (tCons t1 (tCons t2 tNil))) (gName i)) u1 D σ H :=
  h1 H _ (.refl _) fun H1 g1 => h2 H1 _ g1 fun H2 g2 => ⟨r, n, t, row, rfl, h.mono (g1.trans g2), f, (g1.trans g2).tup ht, ok, fun rf H3 g3 => kr rf H3 ((g1.trans g2).trans g3), fun d hd rf H3 l xs pr s' c nl hl t st a => kd d hd rf H3 l xs pr s' ((Ch.of (g1.trans g2)).trans c) ((g1.trans g2).free nl) hl t st a fun hn => by
    obtain ⟨b1, b2⟩ := f.2.1.next (row := row) (f := begRow) f.1 (deedOf_row ok hd).2 rf st
    exact ⟨b1, b2, hn⟩⟩
theorem B_asgT2 {q : Addr} {x y : V} {j : Nat} (h : Vl t1 σ H (.ref q)) (e : H q = some (.tup [x, y])) (kk : ∀ H1, Gr H H1 → u1 D ((σ.set i (some x)).set j (some y)) H1) : tSeq (tAsg t1 (gTup K 2 (gCons (gName i) (gCons (gName j) gNil)))) u1 D σ H := B_unp2 rfl h e kk
end
section
variable {σ : L2.St} {H : Hp} {t1 : TE} {D : Ends} {u1 : TS}
theorem S_aug {i : Nat} {m n : Int} {f : Int → Int → Int} (hs : σ[i]? = some (some (.int m))) (h : Vl t1 σ H (.int n)) (k : ∀ H1, Gr H H1 → D.nx (σ.set i (some (.int (f m n)))) H1) : tAug i t1 (ipI f) D σ H := ⟨_, hs, h H _ (.refl _) fun H1 g => ⟨m, n, rfl, rfl, k H1 g⟩⟩
end
theorem eqv_tup (l m : List Str) : PyData.eqv (.tuple (l.map PyData.str)) (.tuple (m.map PyData.str)) = decide (l = m) := by
  rw [PyData.eqv]
  exact eqv_strs l m
theorem shaped_row {r : JRow} (g : r.good) : SeqAt.shaped (.tuple (r.map PyData.str)) = true := by
  have a := canLay_strs r fun s hs => (g.2.2 s hs).1
  have b := depth_strs r
  unfold SeqAt.shaped
  rw [show PyData.canLay0 (.tuple (r.map PyData.str)) = PyData.canLayAll0 (r.map PyData.str) by simp [PyData.canLay0], a, Bool.true_and]
  refine decide_eq_true ?_
  simp only [PyData.depth]
  omega
theorem rowV_ok' {row : JRow} (h : row.ok) : rowV row.vs = true := rowV_ok.mpr h
theorem row_things {K : PySem.W.Frag} {H : Hp} {row : JRow} (h : row.ok) : ∀ x ∈ row.vs, Thing K x H := fun x hx => by
  obtain ⟨s, hs, rfl⟩ := List.mem_map.mp hx
  exact things (Nat.le_trans (h.good.2.2 s hs).2 (by decide))
theorem ok_FirstWrong (T : Top K mg) (TB : Tabs T base) : FnOk P w K mg base CX0 7 T.f_FirstWrong T.fd_FirstWrong ["room", "rows"] (spFirstW K T.ta_IsName) := by
  have GIsRow := ok_IsRow (P := P) (w := w) (base := base) T TB
  have GBegun := ok_Begun (P := P) (w := w) (base := base) T TB
  refine T.F_FirstWrong.ok scFirstWrong (fun vs H Q E h => ?_) (fun cdv A outer s H vs Q E hr h => ?_)
  · obtain ⟨r, n, pl, xs, l, H0, rfl, h, f, hn, nx0, g0, fr, hpl, hrs, q⟩ := h
    rfl
  · obtain ⟨r, n, pl, xs, l, H0, rfl, h, f, hn, nx0, g0, fr, hpl, hrs, q⟩ := h
    refine ⟨_, (pss_cons (ps_set (i := 2) scFirstWrong.nd rfl (Or.inl rfl) (pe_lst pa_nil))
      (pss_cons (ps_set (i := 3) scFirstWrong.nd rfl (Or.inl rfl) pe_int)
      (pss_cons (ps_for PassesOwn.never rfl (pi_enum (by rfl) T.m_enumerate (pa_cons (pv 1) pa_nil)) (pg_tup rfl (pgs_cons (pg_name (i := 4) scFirstWrong.nd rfl (Or.inl rfl)) (pgs_cons (pg_name (i := 5) scFirstWrong.nd rfl (Or.inl rfl)) pgs_nil)))
      (pss_cons (ps_if (pt_not (pt_val (pe_call GIsRow (hr.mono (by decide)) (by rfl) T.g_IsRow T.F_IsRow.kp T.B_IsRow .nil pass0 (pa_cons (pv 5) pa_nil))))
      (pss_one (ps_ret (pv 4)))
      pss_nil)
      (pss_one (ps_if (pt_cmpR op_lt (pv 3) (pe_callB call_len_seq (by rfl) T.m_len PySem.boot_len (pa_cons (pv 2) pa_nil)) (nomark _))
      (pss_cons (ps_asg (pe_ix ix_list (pv 2) (pv 3) (fun _ _ => rfl)) (pg_tup rfl (pgs_cons (pg_name (i := 6) scFirstWrong.nd rfl (Or.inl rfl)) (pgs_cons (pg_name (i := 7) scFirstWrong.nd rfl (Or.inl rfl)) pgs_nil))))
      (pss_cons (ps_if (pt_cmpR (op_neD hr.units) (pv 5) (pe_tup (pa_cons (pe_glob (v := .str (Str.ofString "begins")) rfl T.c_BEGINS ⟨_, rfl⟩) (pa_cons (pv 6) (pa_cons (pv 7) pa_nil)))) (nomark _))
      (pss_one (ps_ret (pv 4)))
      pss_nil)
      (pss_one (ps_aug (i := 3) scFirstWrong.nd rfl (Or.inl rfl) pe_int ip_add))))
      (pss_cons (ps_set (i := 2) scFirstWrong.nd rfl (Or.inl rfl) (pe_call GBegun hr (by rfl) T.g_Begun T.F_Begun.kp T.B_Begun .nil pass0 (pa_cons (pv 0) (pa_cons (pv 5) pa_nil))))
      (pss_cons (ps_set (i := 3) scFirstWrong.nd rfl (Or.inl rfl) pe_int)
      (pss_one (ps_if (pt_cmpR op_isN (pv 2) pe_non (nomark _))
      (pss_one (ps_ret (pv 4)))
      pss_nil))))))))
      (pss_cons (ps_if (pt_cmpR op_lt (pv 3) (pe_callB call_len_seq (by rfl) T.m_len PySem.boot_len (pa_cons (pv 2) pa_nil)) (nomark _))
      (pss_one (ps_ret (pe_callB call_len_seq (by rfl) T.m_len PySem.boot_len (pa_cons (pv 1) pa_nil))))
      pss_nil)
      (pss_one (ps_ret pe_non)))))), ?_⟩
    refine slots (start_FirstWrong _ _) ?_
    refine B_setL (l_lst g_nil (show 0 ≤ 100000 by decide)) fun pdue H1 ndue e1 hdue => ?_
    walk_at "n"
    refine B_set v_con fun H2 e2 => ?_
    walk_at "n"
    have lx := hrs.length
    have gr : ∀ {H'}, Ch r.L H H' → Gr H0 H' := fun c => ((Ch.of g0).trans c).toGr fr
    refine B_forE (v_slot rfl) (SqL.of ((g0.trans (e1.trans e2)).lst hpl)) (fun m σ' H' => ∃ (sj s' : Now) (pr : List (Str × Str)) (met : Nat) (pdue : Addr) (dys : List V) (rows : List JRow) (y4 y5 y6 y7 : Option V), σ' = [some (.ref r.p), some (.ref pl), some (.ref pdue), some (.int (met : Int)), y4, y5, y6, y7] ∧ Ch r.L H H' ∧
      ({ r with s := s', rows := rows } : Rm).At K T.ta_IsName H' ∧ ({ r with s := s', rows := rows } : Rm).fine (n + m) ∧ H' pdue = some (.lst dys) ∧ TupsAt H' P2.vs dys pr ∧ ¬ r.L pdue ∧ met ≤ pr.length ∧ Settles r.seats r.pat sj (pr.drop met) s' ∧ sj.ok ∧ gone r.seats r.pat r.s l 0 = gone r.seats r.pat sj (l.drop m) m ∧ goneTo r.seats r.pat r.s l = goneTo r.seats r.pat sj (l.drop m) ∧
      rows.map some = r.rows.map some ++ (l.take m ++ ((pr.drop met).map fun p => some (begRow p))))
      (fun H3 e3 => ⟨r.s, r.s, [], 0, pdue, [], r.rows, _, _, _, _, rfl, .of ((e1.trans e2).trans e3), RoomAt.mono ((e1.trans e2).trans e3) h, f, (e2.trans e3).lst hdue, .nil, h.out ndue, Nat.le_refl _, .stop nx0, f.1, rfl, rfl, by simp⟩) (fun m σ' H' _ ⟨_, _, _, _, _, _, _, _, _, _, _, _, c, _⟩ => SqL.of ((gr c).lst hpl)) ?hs ?hd
    case hd =>
      rintro σ' H3 ⟨sj, s', pr, met, pdue, dys, rows, y4, y5, y6, y7, rfl, c, a, f3, hd3, td, _, hm, st, oj, eg, et, er⟩
      have ld := td.length
      rw [lx] at eg et er f3
      rw [List.drop_length] at eg et
      rw [List.take_length] at er
      cases edr : pr.drop met with
      | nil =>
        rw [edr] at st er
        obtain rfl := settles_nil st
        have hle : pr.length ≤ met := by
          have := congrArg List.length edr
          rw [List.length_drop, List.length_nil] at this
          omega
        refine B_when (b := false) (Ts.is (s_test (v_op (v_slot rfl) (v_len (v_slot rfl) (SqL.of hd3)) bi_0)) (decide_eq_false (by omega))) (fun z => nomatch z) fun _ H4 e4 => ?_
        refine S_ret v_con fun H5 e5 => ?_
        have g5 := e4.trans e5
        rw [gone_end st.rest] at eg
        have := q H5 (c.gr g5)
        rw [eg] at this
        refine this fun _ => ⟨rows, ?_, ?_, ?_⟩
        · rw [et]
          exact RoomAt.mono g5 a
        · rw [et]
          exact f3
        · rw [er, List.map_nil, List.append_nil]
      | cons p rest =>
        rw [edr] at st
        obtain ⟨i, nx, _, _⟩ := settles_cons st
        have hlt : met < pr.length := by
          have := congrArg List.length edr
          rw [List.length_drop, List.length_cons] at this
          omega
        refine B_when (b := true) (Ts.is (s_test (v_op (v_slot rfl) (v_len (v_slot rfl) (SqL.of hd3)) bi_0)) (decide_eq_true (by omega))) (fun _ H4 e4 => ?_) fun z => nomatch z
        refine S_ret (v_len (v_slot rfl) (SqL.of (e4.lst ((gr c).lst hpl)))) fun H5 e5 => ?_
        rw [gone_due nx] at eg
        have := q H5 (c.gr (e4.trans e5))
        rw [eg] at this
        rw [lx]
        exact this fun z => nomatch z
    rintro m x T0 σ' H3 hx ⟨sj, s', pr, met, pdue, dys, rows, y4, y5, y6, y7, rfl, c, a, f3, hd3, td, nLd, hm, st, oj, eg, et, er⟩ nT
    obtain ⟨o, ho, rat⟩ := hrs.get hx
    have ml : m < l.length := (List.getElem?_eq_some_iff.mp ho).1
    have eo : l.drop m = o :: l.drop (m + 1) := by
      rw [List.drop_eq_getElem_cons ml]
      rw [← (List.getElem?_eq_some_iff.mp ho).2]
    have etk : l.take (m + 1) = l.take m ++ [o] := by rw [List.take_succ, ho]; rfl
    rw [eo] at eg et
    have ld := td.length
    have gT : Gr H3 (upd H3 T0 (.tup [.int (m : Nat), x])) := .new nT
    refine ⟨T0, _, rfl, SqT.of upd_same, rfl, .int (m : Nat), _, rfl, x, _, rfl, rfl, ?_⟩
    walk_at "n"
    generalize upd H3 T0 (.tup [.int (m : Nat), x]) = H4 at gT ⊢
    have c4 := c.gr gT
    have g04 := gr c4
    have rat4 := rat.mono g04
    cases o with
    | none =>
      rw [gone_bad] at eg
      refine B_when (b := true) (Ts.is (s_not (b := false) (s_B (v_call (g_cons (v_slot rfl) g_nil) ?sp))) rfl) (fun _ H5 e5 => ?_) fun z => nomatch z
      case sp =>
        rcases rat4 with nt | ⟨p, us, ev, hp, th, rv⟩
        · exact sv_norow (RoomAt.tab (RoomAt.mono gT a)) nt
        · subst ev
          rw [← rv]
          exact sv_isrow (RoomAt.tab (RoomAt.mono gT a)) hp th
      refine S_ret (v_slot rfl) fun H6 e6 => ?_
      have := q H6 (c4.gr (e5.trans e6))
      rw [eg] at this
      exact this fun z => nomatch z
    | some row =>
      obtain ⟨ok, p, ev, hp⟩ := rat4
      subst ev
      have tab4 := RoomAt.tab (RoomAt.mono gT a)
      refine B_when (b := false) (Ts.is (s_not (b := true) (s_B (v_call (g_cons (v_slot rfl) g_nil) (rowV_ok' ok ▸ sv_isrow tab4 hp (row_things ok))))) rfl) (fun z => nomatch z) fun _ H5 e5 => ?_
      have g5 := gT.trans e5
      have c5 := c.gr g5
      have hp5 := e5.tup hp
      have hd5 := g5.lst hd3
      have td5 := td.mono g5
      have a5 := RoomAt.mono g5 a
      cases edr : pr.drop met with
      | cons pp rest =>
        rw [edr] at st er
        obtain ⟨i, nx, ep, stn⟩ := settles_cons st
        have hlt : met < pr.length := by
          have := congrArg List.length edr
          rw [List.length_drop, List.length_cons] at this
          omega
        have epp : pr[met]? = some pp := by
          have := List.drop_eq_getElem_cons hlt
          rw [edr] at this
          rw [List.getElem?_eq_getElem hlt, (List.cons.inj this).1]
        have erest : pr.drop (met + 1) = rest := by
          have := List.drop_eq_getElem_cons hlt
          rw [edr] at this
          exact (List.cons.inj this).2.symm
        obtain ⟨pt, hpt, ht⟩ := td5.get met epp
        refine S_if (b := true) (Ts.is (s_test (v_op (v_slot rfl) (v_len (v_slot rfl) (SqL.of hd5)) bi_0)) (decide_eq_true (by omega))) (fun _ H6 e6 => ?_) fun z => nomatch z
        have g6 := g5.trans e6
        refine B_asgT2 (v_op (v_slot rfl) (v_slot rfl) (bi_ixL (SqL.of (e6.lst hd5)) (atI_nat hpt))) (e6.tup ht) fun H7 e7 => ?_
        walk_at "n"
        have g7 := g6.trans e7
        have pk := next_pok oj nx
        rw [← ep] at pk
        have sh1 := shaped_row ok.good
        have sh2 := shaped_row (beg_good pk)
        have bg : (row = begRow pp) ↔ (some row = some (begRow (sj.pr i))) := by rw [← ep]; exact ⟨congrArg _, Option.some.inj⟩
        refine B_when (b := !decide (row = begRow pp)) (Ts.is (s_test (v_opU (v_slot rfl) (u_tup (g_cons v_con (g_cons (v_slot rfl) (g_cons (v_slot rfl) g_nil))) (show 3 ≤ 100000 by decide)) fun p2 H8 hp2 g8 => bi_neD (d := .tuple (row.map PyData.str)) (e := .tuple ((begRow pp).map PyData.str)) (.tup (SqT.of (((e6.trans e7).trans g8).tup hp5)) (dps_str row)) (.tup (SqT.of hp2) (dps_str (begRow pp))) sh1 sh2)) (by rw [eqv_tup])) (fun hb H8 e8 => ?_) fun hb H8 e8 => ?_
        · have hb : ¬ row = begRow pp := by
            intro z
            rw [decide_eq_true z] at hb
            cases hb
          refine S_ret (v_slot rfl) fun H9 e9 => ?_
          rw [gone_beg nx, if_neg (fun z => hb (bg.mpr z))] at eg
          have := q H9 (c.gr ((g7.trans e8).trans e9))
          rw [eg] at this
          exact this fun z => nomatch z
        · have hb : row = begRow pp := by
            by_cases z : row = begRow pp
            · exact z
            · rw [decide_eq_false z] at hb
              cases hb
          have g8 := g7.trans e8
          subst hb
          rw [gone_beg nx, if_pos (bg.mp rfl)] at eg
          rw [ep, goneTo_beg nx] at et
          refine S_aug rfl v_con fun H9 e9 => ?_
          have g9 := g8.trans e9
          refine ⟨sj.began i, s', pr, met + 1, pdue, dys, rows, _, _, _, _, rfl, c.gr g9, RoomAt.mono g9 a, Rm.fine.succ f3 (show n + m < 5000 by omega), g9.lst hd3, td.mono g9, nLd, hlt, by rw [erest]; exact stn, oj.began nx, eg, et, ?_⟩
          rw [er, etk, erest, List.map_cons, List.append_assoc (l.take m)]
          rfl
      | nil =>
        rw [edr] at st er
        obtain rfl := settles_nil st
        have nx := st.rest
        have hle : pr.length ≤ met := by
          have := congrArg List.length edr
          rw [List.length_drop, List.length_nil] at this
          omega
        refine S_if (b := false) (Ts.is (s_test (v_op (v_slot rfl) (v_len (v_slot rfl) (SqL.of hd5)) bi_0)) (decide_eq_false (by omega))) (fun z => nomatch z) fun _ H6 e6 => ?_
        have g6 := g5.trans e6
        have hp6 := e6.tup hp5
        have a6 := RoomAt.mono g6 a
        have bad : ∀ H7, Gr H6 H7 → gone r.seats r.pat sj (some row :: l.drop (m + 1)) m = some m → Q (.int (m : Nat)) H7 := fun H7 e7 z => by
          have := q H7 (c.gr (g6.trans e7))
          rw [eg, z] at this
          exact this fun z => nomatch z
        refine B_begun (r := { r with s := sj, rows := rows }) (v_slot rfl) (v_slot rfl) a6 f3 hp6 ok (fun rf H7 e7 => ?_) fun d hd rf H7 l2 xs2 pr2 s2 ch nl2 hl2 tl2 st2 a7 f7 => ?_
        · walk_at "n"
          refine B_set v_con fun H8 e8 => ?_
          walk_at "n"
          refine S_when (b := true) (Ts.is (s_test (v_op (v_slot rfl) v_con bi_isN)) rfl) (fun _ H9 e9 => ?_) fun z => nomatch z
          refine S_ret (v_slot rfl) fun H10 e10 => bad H10 (((e7.trans e8).trans e9).trans e10) ?_
          cases hd : deedOf row with
          | none => exact gone_no nx hd
          | some d => rw [gone_deed nx hd, if_pos (rf d hd)]
        · walk_at "n"
          refine B_set v_con fun H8 e8 => ?_
          walk_at "n"
          refine S_when (b := false) (Ts.is (s_test (v_op (v_slot rfl) v_con bi_isN)) rfl) (fun z => nomatch z) fun _ H9 e9 => ?_
          have g9 := e8.trans e9
          rw [gone_deed nx hd, if_neg (by rw [rf]; exact Bool.false_ne_true)] at eg
          rw [goneTo_deed nx hd rf] at et
          obtain ⟨k1, k2⟩ := deedOf_row ok hd
          refine ⟨sj.done d, s2, pr2, 0, l2, xs2, rows ++ row :: pr2.map begRow, _, _, _, _, rfl, ((c.gr g6).trans ch).gr g9, RoomAt.mono g9 a7, f7 (show n + m < 5000 by omega), g9.lst hl2, tl2.mono g9, a6.out nl2, Nat.zero_le _, st2, oj.done k2 rf, eg, et, ?_⟩
          rw [List.map_append, List.map_cons, er, etk, List.map_nil, List.append_nil, List.append_assoc, List.append_assoc, List.drop_zero, List.map_map]
          rfl

--CUT
/-! ### a room made for rows -/
section
variable {K : PySem.W.Frag} {P : Addr} {σ : L2.St} {H : Hp} {t1 t2 t3 : TE} {D : Ends} {u1 : TS} {i : Nat}
theorem makeX {v w : V} {E : XK} {Q : VK} (h1 : Vl t1 σ H v) (h2 : Vl t2 σ H w) (n1 : Num3 K v H) (n2 : Num3 K w H) (hT : GxR.TabG H P)
    (kb : (numV 1 v && numV 0 w) = false → ∀ H1, Gr H H1 → E (.ref (He.ga K "BadNumber")) none H1)
    (kg : ∀ seats pat, v = .int seats → w = .int pat → (numV 1 v && numV 0 w) = true → ∀ (r : Rm) H1, Gr H H1 → r.At K P H1 → r.s = Now.none → r.rows = [] → r.seats = seats → r.pat = pat → (∀ b, r.L b → H b = none) → Q (.ref r.p) H1) : tMake (He.ga K "Room") (spInit K P) [] E (tCons t1 (tCons t2 tNil)) σ H Q :=
  h1 H _ (.refl _) fun H1 g1 => h2 H1 _ g1 fun H2 g2 => fun y dx ny ndx ne => by
    have g := g1.trans g2
    have ny' : (upd H2 dx (.own y)) y = none := (upd_ne ne.symm).trans ny
    have gn : Gr H2 (upd (upd H2 dx (.own y)) y (.ins (He.ga K "Room") dx [])) := (Gr.new ndx).trans (.new ny')
    refine ⟨y, dx, v, w, rfl, upd_same, (g.trans gn).tab hT, n1.mono (g.trans gn), n2.mono (g.trans gn), fun z H3 g3 => kb z H3 ((g.trans gn).trans g3), fun nn a s0 p0 H3 es ep ch m1 m2 m3 edx at_ => ⟨rfl, ?_⟩⟩
    have c : Ch (fun x => x = y) H2 H3 := (Ch.of gn).trans ch
    have gr := c.toGr fun b hb => by rw [hb]; exact ny
    refine kg s0 p0 es ep nn ⟨y, a, s0, p0, Now.none, []⟩ H3 (g.trans gr) at_ rfl rfl rfl rfl fun b hb => ?_
    rcases hb with rfl | rfl | rfl | rfl
    · exact g.free ny
    · exact (g.trans gn).free m1
    · exact (g.trans gn).free m2
    · exact (g.trans gn).free m3
theorem B_makeX {v w : V} {E : XK} (h1 : Vl t1 σ H v) (h2 : Vl t2 σ H w) (n1 : Num3 K v H) (n2 : Num3 K w H) (hT : GxR.TabG H P)
    (kb : (numV 1 v && numV 0 w) = false → ∀ H1, Gr H H1 → E (.ref (He.ga K "BadNumber")) none H1)
    (kg : ∀ seats pat, v = .int seats → w = .int pat → (numV 1 v && numV 0 w) = true → ∀ (r : Rm) H1, Gr H H1 → r.At K P H1 → r.s = Now.none → r.rows = [] → r.seats = seats → r.pat = pat → (∀ b, r.L b → H b = none) → u1 D (σ.set i (some (.ref r.p))) H1) : tSeq (tAsg (tMake (He.ga K "Room") (spInit K P) [] E (tCons t1 (tCons t2 tNil))) (gName i)) u1 D σ H :=
  makeX (Q := fun v H1 => u1 D (σ.set i (some v)) H1) h1 h2 n1 n2 hT kb kg
theorem S_makeArg {v w : V} {E E2 : XK} {sp : Sp} (h1 : Vl t1 σ H v) (h2 : Vl t2 σ H w) (n1 : Num3 K v H) (n2 : Num3 K w H) (hT : GxR.TabG H P)
    (kb : (numV 1 v && numV 0 w) = false → ∀ H1, Gr H H1 → E (.ref (He.ga K "BadNumber")) none H1)
    (kg : ∀ seats pat, v = .int seats → w = .int pat → (numV 1 v && numV 0 w) = true → ∀ (r : Rm) H1, Gr H H1 → r.At K P H1 → r.s = Now.none → r.rows = [] → r.seats = seats → r.pat = pat → (∀ b, r.L b → H b = none) → t3 σ H1 fun u H2 => sp [.ref r.p, u] H2 D.rt E2) : tRet (tCall sp [] E2 (tCons (tMake (He.ga K "Room") (spInit K P) [] E (tCons t1 (tCons t2 tNil))) (tCons t3 tNil))) D σ H :=
  makeX (Q := fun v H1 => t3 σ H1 fun u H2 => sp [v, u] H2 D.rt E2) h1 h2 n1 n2 hT kb kg
theorem B_callX {t2 : TE} {a1 : TA} {vs : List V} {r : R2} {sp2 : Sp} {ds : List V} {E : XK} {u3 : TS} (h : Ag a1 σ H vs) (k : ∀ H1, Gr H H1 → sp2 (vs ++ ds) H1 (fun x H2 => tSeq (tIfS (tTest (tOp r (tC x) t2)) u1 tNext) u3 D σ H2) E) : tSeq (tIfS (tTest (tOp r (tCall sp2 ds E a1) t2)) u1 tNext) u3 D σ H := h H _ (.refl _) fun H1 g => k H1 g
end
theorem new_fine {r : Rm} (es : r.s = Now.none) (er : r.rows = []) : r.fine 0 := by
  unfold Rm.fine
  rw [es, er]
  exact ⟨none_ok, none_lim, Nat.zero_le _⟩
def spRoomOf (K : PySem.W.Frag) (P : Addr) : Sp := fun vs H Q E => ∃ (v w : V) (pl : Addr) (xs : List V) (l : List (Option JRow)), vs = [v, w, .ref pl] ∧ GxR.TabG H P ∧ Num3 K v H ∧ Num3 K w H ∧ H pl = some (.lst xs) ∧ RowsAt K H xs l ∧ l.length ≤ 5000 ∧
  ((numV 1 v && numV 0 w) = false → ∀ H1, Gr H H1 → E (.ref (He.ga K "BadNumber")) none H1) ∧
  ∀ seats pat, v = .int seats → w = .int pat → (numV 1 v && numV 0 w) = true → (∀ k, gone seats pat Now.none l 0 = some k → ∀ H1, Gr H H1 → E (.ref (He.ga K "BadJournal")) none H1) ∧
    (gone seats pat Now.none l 0 = Option.none → ∀ (r : Rm) H1, Gr H H1 → r.At K P H1 → (∀ b, r.L b → H b = none) → r.fine l.length → r.s = goneTo seats pat Now.none l → r.rows.map some = l → r.seats = seats → r.pat = pat → Q (.ref r.p) H1)
def spJudged (K : PySem.W.Frag) (P : Addr) : Sp := fun vs H Q E => ∃ (v w : V) (pl : Addr) (xs : List V) (l : List (Option JRow)), vs = [v, w, .ref pl] ∧ GxR.TabG H P ∧ Num3 K v H ∧ Num3 K w H ∧ H pl = some (.lst xs) ∧ RowsAt K H xs l ∧ l.length ≤ 5000 ∧
  ((numV 1 v && numV 0 w) = false → ∀ H1, Gr H H1 → E (.ref (He.ga K "BadNumber")) none H1) ∧
  ∀ seats pat, v = .int seats → w = .int pat → (numV 1 v && numV 0 w) = true → RV (natV (gone seats pat Now.none l 0)) H Q
theorem ok_RoomOf (T : Top K mg) (TB : Tabs T base) : FnOk P w K mg base (L2N.CX P w) 8 T.f_RoomOf T.fd_RoomOf ["seats", "patience", "rows"] (spRoomOf K T.ta_IsName) := by
  have GRoomInit := ok_RoomInit (P := P) (w := w) (base := base) T TB
  have GFirstWrong := ok_FirstWrong (P := P) (w := w) (base := base) T TB
  refine RX.okN T.F_RoomOf scRoomOf (fun vs H Q E h => ?_) (fun cdv A outer s H vs Q E hr h => ?_)
  · obtain ⟨v, w, pl, xs, l, rfl, hT, nv, nw, hpl, hrs, ln, qb, qg⟩ := h
    rfl
  · obtain ⟨v, w, pl, xs, l, rfl, hT, nv, nw, hpl, hrs, ln, qb, qg⟩ := h
    refine ⟨_, (pss_cons (ps_set (i := 3) scRoomOf.nd rfl (Or.inl rfl) (pe_make T.K_Room GRoomInit (hr.mono (by decide)) (by rfl) T.gc_Room T.B_RoomInit .nil (RX.passD (L2N.takes_of rfl rfl rfl rfl)) (pa_cons (pv 0) (pa_cons (pv 1) pa_nil))))
      (pss_cons (ps_if (pt_cmpR op_notN (pe_call GFirstWrong hr (by rfl) T.g_FirstWrong T.F_FirstWrong.kp T.B_FirstWrong .nil pass0 (pa_cons (pv 3) (pa_cons (pv 2) pa_nil))) pe_non (nomark _))
      (pss_one (L2N.ps_raise rfl (L2N.takes_of rfl rfl rfl rfl) (L2N.pmk_own PySem.F.excBase_ValueError T.xx_BadJournal.1 T.gc_BadJournal T.xx_BadJournal.2.1 (raises_own T.xx_BadJournal.2.2.1 T.xx_BadJournal.2.2.2) (by exact rfl))))
      pss_nil)
      (pss_one (ps_ret (pv 3))))), ?_⟩
    refine slots (start_RoomOf _ _ _) ?_
    refine B_makeX (v_slot rfl) (v_slot rfl) nv nw hT qb fun seats pat ev ew nn r H1 e1 a es er ese ep fr => ?_
    subst ev ew
    walk_at "n"
    obtain ⟨q1, q2⟩ := qg seats pat rfl rfl nn
    refine B_callX (g_cons (v_slot rfl) (g_cons (v_slot rfl) g_nil)) fun H2 e2 => ⟨r, 0, pl, xs, l, H, rfl, a.mono e2, new_fine es er, by omega, by rw [es]; rfl, e1.trans e2, fr, hpl, hrs, fun H3 c3 k => ?_⟩
    have g3 : Gr H H3 := ((Ch.of (e1.trans e2)).trans c3).toGr fr
    rw [es, ese, ep] at k ⊢
    cases hg : gone seats pat Now.none l 0 with
    | some j =>
      refine B_when (b := true) (Ts.is (s_test (v_op v_con v_con bi_notN)) rfl) (fun _ H4 e4 => ?_) fun z => nomatch z
      exact q1 j hg H4 (g3.trans e4)
    | none =>
      refine B_when (b := false) (Ts.is (s_test (v_op v_con v_con bi_notN)) rfl) (fun z => nomatch z) fun _ H4 e4 => ?_
      obtain ⟨rows, a3, f3, e3⟩ := k hg
      rw [er, Nat.zero_add] at *
      refine S_ret (v_slot rfl) fun H5 e5 => q2 hg ⟨r.p, r.a, seats, pat, goneTo seats pat Now.none l, rows⟩ H5 ((g3.trans e4).trans e5) (RoomAt.mono (e4.trans e5) a3) fr f3 rfl e3 rfl rfl
theorem ok_Judged (T : Top K mg) (TB : Tabs T base) : FnOk P w K mg base (L2N.CX P w) 8 T.f_Judged T.fd_Judged ["seats", "patience", "rows"] (spJudged K T.ta_IsName) := by
  have GFirstWrong := ok_FirstWrong (P := P) (w := w) (base := base) T TB
  have GRoomInit := ok_RoomInit (P := P) (w := w) (base := base) T TB
  refine RX.okN T.F_Judged scJudged (fun vs H Q E h => ?_) (fun cdv A outer s H vs Q E hr h => ?_)
  · obtain ⟨v, w, pl, xs, l, rfl, hT, nv, nw, hpl, hrs, ln, qb, qg⟩ := h
    rfl
  · obtain ⟨v, w, pl, xs, l, rfl, hT, nv, nw, hpl, hrs, ln, qb, qg⟩ := h
    refine ⟨_, (pss_one (ps_ret (pe_call GFirstWrong hr (by rfl) T.g_FirstWrong T.F_FirstWrong.kp T.B_FirstWrong .nil pass0 (pa_cons (pe_make T.K_Room GRoomInit (hr.mono (by decide)) (by rfl) T.gc_Room T.B_RoomInit .nil (RX.passD (L2N.takes_of rfl rfl rfl rfl)) (pa_cons (pv 0) (pa_cons (pv 1) pa_nil))) (pa_cons (pv 2) pa_nil))))), ?_⟩
    refine slots (start_Judged _ _ _) ?_
    refine S_makeArg (v_slot rfl) (v_slot rfl) nv nw hT qb fun seats pat ev ew nn r H1 e1 a es er ese ep fr => ?_
    subst ev ew
    have q := qg seats pat rfl rfl nn
    refine v_slot rfl H1 _ (.refl _) fun H2 e2 => ⟨r, 0, pl, xs, l, H, rfl, a.mono e2, new_fine es er, by omega, by rw [es]; rfl, e1.trans e2, fr, hpl, hrs, fun H3 c3 k => ?_⟩
    rw [es, ese, ep]
    exact q H3 (((Ch.of (e1.trans e2)).trans c3).toGr fr)

--CUT
/-! ### things that stand where rows should, with their data -/
/-- what may stand in a tuple: a text, or no text, with its data -/
def ThD (K : PySem.W.Frag) (x : V) (H : Hp) : Prop := Thing K x H ∧ ∃ d, Dp K H x d ∧ PyData.canLay0 d = true ∧ d.depth ≤ 2
theorem ThD.mono {K : PySem.W.Frag} {x : V} {H H' : Hp} (g : Gr H H') (h : ThD K x H) : ThD K x H' := ⟨h.1.mono g, let ⟨d, a, b⟩ := h.2; ⟨d, g.dp a, b⟩⟩
theorem ThD.str {K : PySem.W.Frag} {H : Hp} {z : Str} (n : z.length ≤ 100000) (a : Asc z) : ThD K (.str z) H := ⟨things n, .str z, .str z, a.ok, Nat.zero_le _⟩
theorem ThD.int {K : PySem.W.Frag} {H : Hp} {i : Int} : ThD K (.int i) H := ⟨.inr ⟨.int, fun _ z => nomatch z⟩, .int i, .int i, rfl, Nat.zero_le _⟩
theorem ThD.non {K : PySem.W.Frag} {H : Hp} : ThD K .non H := ⟨.inr ⟨.non, fun _ z => nomatch z⟩, .none, .non, rfl, Nat.zero_le _⟩
theorem ThD.lst {K : PySem.W.Frag} {H : Hp} {p : Addr} {l : List Str} (h : H p = some (.lst (l.map V.str))) (a : ∀ z ∈ l, Asc z) : ThD K (.ref p) H := ⟨.inr ⟨.lst h, fun _ z => nomatch z⟩, .list (l.map PyData.str), .lst (SqL.of h) (dps_str l), by
  rw [show PyData.canLay0 (.list (l.map PyData.str)) = PyData.canLayAll0 (l.map PyData.str) by simp [PyData.canLay0]]
  exact canLay_strs l a, by
  have := depth_strs l
  simp only [PyData.depth]
  omega⟩
theorem ths_data {K : PySem.W.Frag} {H : Hp} : ∀ {xs : List V}, (∀ x ∈ xs, ThD K x H) → ∃ ds, DpAll K H xs ds ∧ PyData.canLayAll0 ds = true ∧ PyData.depthAll ds ≤ 2
  | [], _ => ⟨[], .nil, by simp [PyData.canLayAll0], by simp [PyData.depthAll]⟩
  | x :: xs, h => by
    obtain ⟨_, d, a, b, c⟩ := h x List.mem_cons_self
    obtain ⟨ds, e, f, g⟩ := ths_data fun y hy => h y (List.mem_cons_of_mem x hy)
    refine ⟨d :: ds, .cons a e, by simp [PyData.canLayAll0, b, f], ?_⟩
    simp only [PyData.depthAll]
    omega
theorem dp_strs {K : PySem.W.Frag} {H : Hp} : ∀ {xs : List V} {l : List Str}, DpAll K H xs (l.map PyData.str) → xs = l.map V.str
  | _, [], h => by
    cases h
    rfl
  | _, z :: l, h => by
    rw [List.map_cons] at h
    cases h with
    | cons a b =>
      cases a
      rw [dp_strs b]
      rfl
theorem rowV_row {xs : List V} (h : rowV xs = true) : ∃ l : JRow, xs = l.vs ∧ l.ok := by
  have isS : ∀ {l : List Str} {v : V}, wordV l v = true → ∃ z, v = .str z := fun {l v} h => by
    cases v <;> first | exact ⟨_, rfl⟩ | cases h
  have isN : ∀ {v : V}, nameV v = true → ∃ z, v = .str z := fun {v} h => by
    cases v <;> first | exact ⟨_, rfl⟩ | cases h
  have isW : ∀ {v : V}, wishV v = true → ∃ z, v = .str z := fun {v} h => by
    cases v <;> first | exact ⟨_, rfl⟩ | cases h
  match xs, h with
  | [w, n, x], h =>
    have h' := h
    simp only [rowV, Bool.and_eq_true] at h'
    obtain ⟨z1, rfl⟩ := isS h'.1
    obtain ⟨z2, rfl⟩ := isN h'.2.1
    obtain ⟨z3, rfl⟩ := isW h'.2.2
    exact ⟨[z1, z2, z3], rfl, rowV_ok.mp h⟩
  | [w, n], h =>
    have h' := h
    simp only [rowV, Bool.and_eq_true] at h'
    obtain ⟨z1, rfl⟩ := isS h'.1
    obtain ⟨z2, rfl⟩ := isN h'.2
    exact ⟨[z1, z2], rfl, rowV_ok.mp h⟩
  | [], h => cases h
  | [_], h => cases h
  | _ :: _ :: _ :: _ :: _, h => cases h
def RowDat (K : PySem.W.Frag) (H : Hp) (v : V) (o : Option JRow) : Prop := match o with
  | some _ => True
  | .none => (∃ p kvs, v = .ref p ∧ H p = some (.dK kvs)) ∨ ∃ d, Dp K H v d ∧ SeqAt.shaped d = true ∧ ∀ l : JRow, l.ok → d ≠ .tuple (l.map PyData.str)
theorem RowDat.mono {K : PySem.W.Frag} {H H' : Hp} {v : V} {o : Option JRow} (g : Gr H H') (h : RowDat K H v o) : RowDat K H' v o := by
  cases o with
  | some _ => trivial
  | none =>
    rcases h with ⟨p, kvs, a, b⟩ | ⟨d, a, b⟩
    · exact .inl ⟨p, kvs, a, g.dK b⟩
    · exact .inr ⟨d, g.dp a, b⟩
structure ItemAt (K : PySem.W.Frag) (H : Hp) (v : V) (o : Option JRow) : Prop where
  row : RowAt K H v o
  dat : RowDat K H v o
  pl : XE.plainV v = true
theorem ItemAt.mono {K : PySem.W.Frag} {H H' : Hp} {v : V} {o : Option JRow} (g : Gr H H') (h : ItemAt K H v o) : ItemAt K H' v o := ⟨h.row.mono g, h.dat.mono g, h.pl⟩
theorem ItemAt.of {K : PySem.W.Frag} {H : Hp} {p : Addr} {r : JRow} (h : H p = some (.tup r.vs)) (ok : r.ok) : ItemAt K H (.ref p) (some r) := ⟨⟨ok, p, rfl, h⟩, trivial, rfl⟩
theorem ItemAt.tup {K : PySem.W.Frag} {H : Hp} {p : Addr} {xs : List V} (h : H p = some (.tup xs)) (t : ∀ x ∈ xs, ThD K x H) : ∃ o, ItemAt K H (.ref p) o := by
  by_cases e : rowV xs = true
  · obtain ⟨l, rfl, ok⟩ := rowV_row e
    exact ⟨some l, .of h ok⟩
  · have e : rowV xs = false := Bool.not_eq_true _ |>.mp e
    obtain ⟨ds, a, b, c⟩ := ths_data t
    refine ⟨none, .inr ⟨p, xs, rfl, h, fun x hx => (t x hx).1, e⟩, .inr ⟨.tuple ds, .tup (SqT.of h) a, ?_, fun l ok z => ?_⟩, rfl⟩
    · unfold SeqAt.shaped
      rw [show PyData.canLay0 (.tuple ds) = PyData.canLayAll0 ds by simp [PyData.canLay0], b, Bool.true_and]
      refine decide_eq_true ?_
      simp only [PyData.depth]
      omega
    · have z := PyData.tuple.inj z
      subst z
      rw [dp_strs a] at e
      have := rowV_ok.mpr ok
      unfold JRow.vs at this
      rw [e] at this
      cases this
theorem ItemAt.odd {K : PySem.W.Frag} {H : Hp} {v : V} {d : PyData} (n : NoTup K v H) (h : Dp K H v d) (s : SeqAt.shaped d = true) (nt : ∀ l, d ≠ .tuple l) (p : XE.plainV v = true) : ItemAt K H v none := ⟨.inl n, .inr ⟨d, h, s, fun l _ => nt _⟩, p⟩
theorem ItemAt.non {K : PySem.W.Frag} {H : Hp} : ItemAt K H .non none := .odd ⟨_, .base .non, kit_ty (by decide +kernel)⟩ .non (by decide +kernel) (fun _ z => nomatch z) rfl
theorem ItemAt.int {K : PySem.W.Frag} {H : Hp} {i : Int} : ItemAt K H (.int i) none := .odd ⟨_, .base (.int i), kit_ty (by decide +kernel)⟩ (.int i) (by unfold SeqAt.shaped; simp [PyData.canLay0, PyData.depth]) (fun _ z => nomatch z) rfl
theorem ItemAt.str {K : PySem.W.Frag} {H : Hp} {z : Str} (a : Asc z) : ItemAt K H (.str z) none := .odd ⟨_, .base (.str z), kit_ty (by decide +kernel)⟩ (.str z) (by unfold SeqAt.shaped; simp [PyData.canLay0, PyData.depth, a.ok]) (fun _ z => nomatch z) rfl
theorem ItemAt.lst {K : PySem.W.Frag} {H : Hp} {p : Addr} {l : List Str} (h : H p = some (.lst (l.map V.str))) (a : ∀ z ∈ l, Asc z) : ItemAt K H (.ref p) none := .odd ⟨_, .base (.lst h), kit_ty (by decide +kernel)⟩ (.lst (SqL.of h) (dps_str l)) (shaped_strs l a) (fun _ z => nomatch z) rfl
theorem ItemAt.dict {K : PySem.W.Frag} {H : Hp} {p : Addr} {kvs : List (Key × V)} (h : H p = some (.dK kvs)) : ItemAt K H (.ref p) none := ⟨.inl ⟨_, .base (.dK h), kit_ty (by decide +kernel)⟩, .inl ⟨p, kvs, rfl, h⟩, rfl⟩
inductive ItemsAt (K : PySem.W.Frag) (H : Hp) : List V → List (Option JRow) → Prop
  | nil : ItemsAt K H [] []
  | cons {v : V} {o : Option JRow} {vs : List V} {l : List (Option JRow)} : ItemAt K H v o → ItemsAt K H vs l → ItemsAt K H (v :: vs) (o :: l)
namespace ItemsAt
variable {K : PySem.W.Frag} {H H' : Hp}
theorem mono (g : Gr H H') : ∀ {vs : List V} {l : List (Option JRow)}, ItemsAt K H vs l → ItemsAt K H' vs l
  | _, _, .nil => .nil
  | _, _, .cons h t => .cons (h.mono g) (t.mono g)
theorem rows : ∀ {vs : List V} {l : List (Option JRow)}, ItemsAt K H vs l → RowsAt K H vs l
  | _, _, .nil => .nil
  | _, _, .cons h t => .cons h.row t.rows
theorem plain : ∀ {vs : List V} {l : List (Option JRow)}, ItemsAt K H vs l → vs.all XE.plainV = true
  | _, _, .nil => rfl
  | _, _, .cons h t => by rw [List.all_cons, h.pl, t.plain]; rfl
theorem length : ∀ {vs : List V} {l : List (Option JRow)}, ItemsAt K H vs l → vs.length = l.length
  | _, _, .nil => rfl
  | _, _, .cons _ t => by rw [List.length_cons, List.length_cons, t.length]
theorem get : ∀ {vs : List V} {l : List (Option JRow)} {m : Nat} {v : V}, ItemsAt K H vs l → vs[m]? = some v → ∃ o, l[m]? = some o ∧ ItemAt K H v o
  | _, _, _, _, .nil, h => by simp at h
  | _, _, 0, _, .cons h _, e => by
    cases e
    exact ⟨_, rfl, h⟩
  | _, _, m + 1, _, .cons _ t, e => t.get (m := m) e
theorem of : ∀ {vs : List V} {l : List JRow}, TupsAt H JRow.vs vs l → (∀ r ∈ l, r.ok) → ItemsAt K H vs (l.map some)
  | _, _, .nil, _ => .nil
  | _, _, .cons h t, g => .cons (.of h (g _ List.mem_cons_self)) (of t fun r hr => g r (List.mem_cons_of_mem _ hr))
theorem app : ∀ {vs ws : List V} {l m : List (Option JRow)}, ItemsAt K H vs l → ItemsAt K H ws m → ItemsAt K H (vs ++ ws) (l ++ m)
  | _, _, _, _, .nil, k => k
  | _, _, _, _, .cons h t, k => .cons h (t.app k)
theorem take : ∀ (n : Nat) {vs : List V} {l : List (Option JRow)}, ItemsAt K H vs l → ItemsAt K H (vs.take n) (l.take n)
  | 0, _, _, _ => .nil
  | _ + 1, _, _, .nil => .nil
  | n + 1, _, _, .cons h t => .cons h (t.take n)
theorem drop : ∀ (n : Nat) {vs : List V} {l : List (Option JRow)}, ItemsAt K H vs l → ItemsAt K H (vs.drop n) (l.drop n)
  | 0, _, _, h => h
  | _ + 1, _, _, .nil => .nil
  | n + 1, _, _, .cons _ t => t.drop n
theorem ch {L : Addr → Prop} (c : Ch L H H') (g : Gr H H') : ∀ {vs : List V} {l : List (Option JRow)}, ItemsAt K H vs l → ItemsAt K H' vs l := mono g
end ItemsAt
/-- a list of such things -/
def Items (K : PySem.W.Frag) (H : Hp) (vs : List V) : Prop := ∃ l, ItemsAt K H vs l
namespace Items
variable {K : PySem.W.Frag} {H H' : Hp} {vs ws : List V}
theorem mono (g : Gr H H') (h : Items K H vs) : Items K H' vs := let ⟨l, a⟩ := h; ⟨l, a.mono g⟩
theorem app (h : Items K H vs) (k : Items K H ws) : Items K H (vs ++ ws) := let ⟨l, a⟩ := h; let ⟨m, b⟩ := k; ⟨l ++ m, a.app b⟩
theorem take (n : Nat) (h : Items K H vs) : Items K H (vs.take n) := let ⟨l, a⟩ := h; ⟨l.take n, a.take n⟩
theorem drop (n : Nat) (h : Items K H vs) : Items K H (vs.drop n) := let ⟨l, a⟩ := h; ⟨l.drop n, a.drop n⟩
theorem one {v : V} {o : Option JRow} (h : ItemAt K H v o) : Items K H [v] := ⟨[o], .cons h .nil⟩
theorem cut {lo hi : Option Int} (h : Items K H vs) : Items K H (cutV vs lo hi) := by
  unfold cutV
  exact (h.drop _).take _
theorem get {m : Nat} {v : V} (h : Items K H vs) (e : vs[m]? = some v) : ∃ o, ItemAt K H v o := let ⟨l, a⟩ := h; let ⟨o, _, b⟩ := a.get e; ⟨o, b⟩
end Items
/-! ### what the law says of names and rows -/
def spNameF : Sp := fun vs H Q _ => ∃ z : Str, vs = [.str z] ∧ z.length ≤ 100000 ∧ RV (.bl (nameB z)) H Q
theorem sv_namef {H : Hp} {z : Str} (n : z.length ≤ 100000) : SpV spNameF [.str z] H (.bl (nameB z)) := fun H1 Q E g q => ⟨z, rfl, n, q⟩
def spFormed (K : PySem.W.Frag) : Sp := fun vs H Q _ => ∃ (v : V) (o : Option JRow), vs = [v] ∧ RowAt K H v o ∧ RV (.bl o.isSome) H Q
theorem sv_formed {K : PySem.W.Frag} {H : Hp} {v : V} {o : Option JRow} (h : RowAt K H v o) : SpV (spFormed K) [v] H (.bl o.isSome) := fun H1 Q E g q => ⟨v, o, rfl, h.mono g, q⟩

--CUT
theorem ok_NameF (T : Top K mg) (TB : Tabs T base) : FnOk P w K mg base CX0 1 T.f_NameF T.fd_NameF ["_law_thing"] (spNameF) := by
  refine T.F_NameF.ok scNameF (fun vs H Q E h => ?_) (fun cdv A outer s H vs Q E hr h => ?_)
  · obtain ⟨z, rfl, hz, q⟩ := h
    rfl
  · obtain ⟨z, rfl, hz, q⟩ := h
    refine ⟨_, (pss_cons (ps_if (PW.pt (pw_or (pt_not (pt_val (pe_callB call_isi (by rfl) T.m_isinstance (by decide +kernel) (pa_cons (pv 0) (pa_cons (pe_bltn (v := .ty "str") (by rfl) T.m_str (by decide +kernel) rfl) pa_nil))))) (pw_or (pt_cmpR op_lt (pe_callB call_len_str (by rfl) T.m_len PySem.boot_len (pa_cons (pv 0) pa_nil)) pe_int (nomark _)) (pw_or1 (pt_cmpR op_gt (pe_callB call_len_str (by rfl) T.m_len PySem.boot_len (pa_cons (pv 0) pa_nil)) pe_int (nomark _))))))
      (pss_one (ps_ret pe_bl))
      pss_nil)
      (pss_cons (ps_set (i := 1) scNameF.nd rfl (Or.inr rfl) pe_str)
      (pss_one (ps_ret (pe_cmpR (XE.op_eqX hr.units) (pe_lc (own := [("_law_sign", 2)]) rfl scNameF.nd (pi_str (pv 0)) (blkOk_by (own := [("_law_sign", 2)]) (N := nmNameF) (sc := defScope sNameF) (by decide +kernel)) (fun _ _ _ _ _ => (pg_name (i := 2) scNameF.nd rfl (Or.inl rfl))) (fun _ _ _ _ _ => (pts_one (pt_cmpR op_notInS (pv 2) (pv 1) rfl))) (fun _ _ _ _ _ => (pv 2))) (pe_lst pa_nil) (nomark _)))))), ?_⟩
    refine slots (start_NameF _) ?_
    refine' B_when ?h ?k1 ?k2
    (case h => refine' s_or (s_not (s_B (v_issS (v_slot rfl)))) (fun _ => s_or (s_test (v_op (v_lenS (v_slot rfl) hz) v_con bi_0)) (fun _ => s_test (v_op (v_lenS (v_slot rfl) hz) v_con bi_0))))
    all_goals intro hb H1 e1
    · refine S_ret v_con fun H2 e2 => ?_
      have e : nameB z = false := by
        unfold nameB
        have h1 : (decide (1 ≤ (z.length : Int)) && decide ((z.length : Int) ≤ 12)) = false := by
          simp only [Bool.not_true, Bool.false_or, Bool.or_eq_true, decide_eq_true_eq] at hb
          simp only [Bool.and_eq_false_iff, decide_eq_false_iff_not]
          omega
        rw [h1]
        rfl
      rw [e] at q
      exact q H2 (e1.trans e2)
    · have e : nameB z = ((List.range z.cps.toList.length).filter fun m => !decide (z.cps.toList.getD m 0 ∈ signs.cps.toList)).isEmpty := by
        unfold nameB
        have h1 : (decide (1 ≤ (z.length : Int)) && decide ((z.length : Int) ≤ 12)) = true := by
          simp only [Bool.not_true, Bool.false_or, Bool.or_eq_false_iff, decide_eq_false_iff_not] at hb
          simp only [Bool.and_eq_true, decide_eq_true_eq]
          omega
        rw [h1, Bool.true_and]
        exact (none_out z.cps.toList fun k => decide (k ∈ signs.cps.toList)).symm
      rw [e] at q
      replace q := q.mono e1
      refine' B_set v_con ?kk
      intro H2 e2
      have sz : z.cps.size = z.cps.toList.length := Array.length_toList.symm
      have le : z.cps.size ≤ 40000 := by
        simp only [Bool.not_true, Bool.false_or, Bool.or_eq_false_iff, decide_eq_false_iff_not] at hb
        show z.length ≤ 40000
        omega
      refine' S_ret (v_opR (Ls.toR (l_cmpS (w := z) (fun m => !decide (z.cps.toList.getD m 0 ∈ signs.cps.toList)) (fun m => V.str ⟨#[z.cps.toList.getD m 0]⟩) (v_slot rfl) le (fun _ => rfl) ?ht ?he)) (fun g h => ⟨h.choose, h.choose_spec.1, g.lst h.choose_spec.2⟩) (fun x H1 g hx => Ls.toR (l_lst g_nil (by decide))) ?o) ?kk2
      case ht =>
        intro m k H3 g hk
        rw [cps_getD hk]
        exact s_test (v_op (v_slot rfl) (v_slot rfl) bi_notInS)
      case he =>
        intro m k H3 g hk _
        rw [cps_getD hk]
        exact v_slot rfl
      case o =>
        rintro _ _ H3 g ⟨p, rfl, hp⟩ ⟨p2, rfl, hp2⟩
        exact XE.bi_eqNil (SqL.of hp) (SqL.of hp2)
      intro H3 e3
      unfold out
      rw [List.isEmpty_map, sz]
      exact q H3 (e2.trans e3)
def strV : V → Bool
  | .str _ => true
  | _ => false
theorem v_strT {K : PySem.W.Frag} {σ : L2.St} {H : Hp} {t1 : TE} {v : V} (h : Vl t1 σ H v) (t : Thing K v H) : Vl (tCB (rIsi K) (tCons t1 (tCons (tC (.ty "str")) tNil))) σ H (.bl (strV v)) := by
  rcases t with ⟨z, rfl, _⟩ | ⟨n, no⟩
  · exact v_issS h
  · have : strV v = false := by cases v <;> first | exact absurd rfl (no _) | rfl
    rw [this]
    exact v_nostr h n
theorem no_words {xs : List V} : ((List.range xs.length).filter (fun m => !strV (xs.getD m .non))).isEmpty = xs.all strV := by
  rw [Bool.eq_iff_iff, List.isEmpty_iff, List.filter_eq_nil_iff, List.all_eq_true]
  constructor
  · intro h x hx
    obtain ⟨m, hm, rfl⟩ := List.getElem_of_mem hx
    have := h m (List.mem_range.mpr hm)
    rw [List.getD_eq_getElem?_getD, List.getElem?_eq_getElem hm] at this
    simpa using this
  · intro h m hm
    have hm := List.mem_range.mp hm
    rw [List.getD_eq_getElem?_getD, List.getElem?_eq_getElem hm]
    have := h _ (List.getElem_mem hm)
    simpa using this
theorem all_strs : ∀ {xs : List V}, xs.all strV = true → ∃ l : List Str, xs = l.map V.str
  | [], _ => ⟨[], rfl⟩
  | x :: xs, h => by
    rw [List.all_cons, Bool.and_eq_true] at h
    obtain ⟨l, rfl⟩ := all_strs h.2
    cases x with
    | str z => exact ⟨z :: l, rfl⟩
    | _ => cases h.1
theorem rowV_strs {xs : List V} (h : rowV xs = true) : xs.all strV = true := by
  obtain ⟨l, rfl, _⟩ := rowV_row h
  unfold JRow.vs
  rw [List.all_map]
  exact List.all_eq_true.mpr fun _ _ => rfl
theorem in_listS {K : PySem.W.Frag} {σ : L2.St} {H : Hp} {t1 t2 : TE} {z : Str} {l : List Str} (h : Vl t1 σ H (.str z)) (h2 : Ls t2 σ H (l.map V.str)) : Vl (tOp (rIn K false) t1 t2) σ H (.bl (decide (z ∈ l))) := by
  refine v_opN h h2 fun p H1 hp g => bi_is (bi_inL (SqL.of hp) rfl (flat_words l)) ?_
  rw [if_neg Bool.false_ne_true, in_words]
theorem ok_Formed (T : Top K mg) (TB : Tabs T base) : FnOk P w K mg base CX0 2 T.f_Formed T.fd_Formed ["_law_row_here"] (spFormed K) := by
  have GNameF := ok_NameF (P := P) (w := w) (base := base) T TB
  refine T.F_Formed.ok scFormed (fun vs H Q E h => ?_) (fun cdv A outer s H vs Q E hr h => ?_)
  · obtain ⟨v, o, rfl, hr0, q⟩ := h
    rfl
  · obtain ⟨v, o, rfl, hr0, q⟩ := h
    refine ⟨_, (pss_cons (ps_if (PW.pt (pw_or (pt_not (pt_val (pe_callB call_isi (by rfl) T.m_isinstance (by decide +kernel) (pa_cons (pv 0) (pa_cons (pe_bltn (v := .ty "tuple") (by rfl) T.m_tuple (by decide +kernel) rfl) pa_nil))))) (pw_or (pt_cmpR op_lt (pe_callB call_len_seq (by rfl) T.m_len PySem.boot_len (pa_cons (pv 0) pa_nil)) pe_int (nomark _)) (pw_or1 (pt_cmpR op_gt (pe_callB call_len_seq (by rfl) T.m_len PySem.boot_len (pa_cons (pv 0) pa_nil)) pe_int (nomark _))))))
      (pss_one (ps_ret pe_bl))
      pss_nil)
      (pss_cons (ps_if (PW.pt (pw_or (pt_cmpR (XE.op_neX hr.units) (pe_lc (own := [("_law_word", 1)]) rfl scFormed.nd (pi_tup (pv 0)) (blkOk_by (own := [("_law_word", 1)]) (N := nmFormed) (sc := defScope sFormed) (by decide +kernel)) (fun _ _ _ _ _ => (pg_name (i := 1) scFormed.nd rfl (Or.inl rfl))) (fun _ _ _ _ _ => (pts_one (pt_not (pt_val (pe_callB (r := rIsi K) call_isi (by rfl) T.m_isinstance (by decide +kernel) (pa_cons (pv 1) (pa_cons (pe_bltn (v := .ty "str") (by rfl) T.m_str (by decide +kernel) rfl) pa_nil))))))) (fun _ _ _ _ _ => (pv 1))) (pe_lst pa_nil) (nomark _)) (pw_or1 (pt_not (pt_val (pe_call GNameF hr (by rfl) T.g_NameF T.F_NameF.kp T.B_NameF .nil pass0 (pa_cons (pe_ix ix_tup (pv 0) pe_int (fun _ _ => rfl)) pa_nil)))))))
      (pss_one (ps_ret pe_bl))
      pss_nil)
      (pss_cons (ps_if (pt_cmpR op_eq (pe_callB call_len_seq (by rfl) T.m_len PySem.boot_len (pa_cons (pv 0) pa_nil)) pe_int (nomark _))
      (pss_one (ps_ret (pe_and (pe_cmpR op_in_seq (pe_ix ix_tup (pv 0) pe_int (fun _ _ => rfl)) (pe_lst (pa_cons pe_str (pa_cons pe_str pa_nil))) (by rfl)) (pe_one (pe_cmpR op_in_seq (pe_ix ix_tup (pv 0) pe_int (fun _ _ => rfl)) (pe_lst (pa_cons pe_str (pa_cons pe_str pa_nil))) (by rfl))))))
      pss_nil)
      (pss_one (ps_ret (pe_cmpR op_in_seq (pe_ix ix_tup (pv 0) pe_int (fun _ _ => rfl)) (pe_lst (pa_cons pe_str (pa_cons pe_str (pa_cons pe_str pa_nil)))) (by rfl))))))), ?_⟩
    refine slots (start_Formed _) ?_
    have cs : (NoTup K v H ∧ o.isSome = false) ∨ ∃ p xs, v = .ref p ∧ H p = some (.tup xs) ∧ (∀ x ∈ xs, Thing K x H) ∧ rowV xs = o.isSome := by
      cases o with
      | some row =>
        obtain ⟨ok, p, ev, hp⟩ := hr0
        refine .inr ⟨p, row.vs, ev, hp, fun x hx => ?_, rowV_ok.mpr ok⟩
        obtain ⟨s, hs, rfl⟩ := List.mem_map.mp hx
        exact things (Nat.le_trans (ok.good.2.2 s hs).2 (by decide))
      | none =>
        rcases hr0 with n | ⟨p, xs, ev, hp, th, rv⟩
        · exact .inl ⟨n, rfl⟩
        · exact .inr ⟨p, xs, ev, hp, th, rv⟩
    rcases cs with ⟨⟨n, ty, kt⟩, eo⟩ | ⟨p, xs, rfl, hp, th, rv⟩
    · rw [eo] at q
      refine B_when (b := true) (s_or (b := true) (c := false) (Ts.is (s_not (b := false) (s_B (v_isi (b := false) (v_slot rfl) v_con (.ty _) (fun _ g => g.tyX ty) kt))) rfl) fun z => nomatch z) (fun _ H1 e1 => ?_) fun z => nomatch z
      exact S_ret v_con fun H2 e2 => q H2 (e1.trans e2)
    rw [← rv] at q
    have no : ∀ (H2 : Hp), Gr H H2 → rowV xs = false → ∀ H3, Gr H2 H3 → Q (.bl false) H3 := fun H2 g2 e H3 g3 => by
      rw [e] at q
      exact q H3 (g2.trans g3)
    refine B_when (s_or (s_not (s_B (v_ist (v_slot rfl) hp))) (fun _ => s_or (s_test (v_op (v_lenT (v_slot rfl) (SqT.of hp)) v_con bi_0)) (fun _ => s_test (v_op (v_lenT (v_slot rfl) (SqT.of hp)) v_con bi_0)))) (fun hb H1 e1 => ?_) fun hb H1 e1 => ?_
    · refine S_ret v_con (no _ e1 ?_)
      simp only [Bool.not_true, Bool.false_or, Bool.or_eq_true, decide_eq_true_eq] at hb
      match xs, hb with
      | [], _ => rfl
      | [_], _ => rfl
      | [_, _], hb => exact absurd hb (by simp)
      | [_, _, _], hb => exact absurd hb (by simp)
      | _ :: _ :: _ :: _ :: _, _ => rfl
    simp only [Bool.not_true, Bool.false_or, Bool.or_eq_false_iff, decide_eq_false_iff_not] at hb
    have ln : xs.length ≤ 40000 := by omega
    have flt : ∀ {σ : L2.St}, σ = [some (.ref p), none] → Ts (tTest (tOp (XE.rNeX K) (tLc (iTup K (tVar 0)) (gName 1) (tNot (tB (tCB (rIsi K) (tCons (tVar 1) (tCons (tC (.ty "str")) tNil))))) (tVar 1) [1]) (tLst tNil))) σ H1 (!xs.all strV) := fun {σ} es => by
      subst es
      refine Ts.is (s_test (v_opR (z := .bl (!(out xs.length (fun m => !strV (xs.getD m .non)) (fun m => xs.getD m .non)).isEmpty)) (Ls.toR (l_cmpT (fun m => !strV (xs.getD m .non)) (fun m => xs.getD m .non) (v_slot rfl) (SqT.of (e1.tup hp)) ln (fun _ => rfl) (fun m x H2 g2 hx => ?tt) (fun m x H2 g2 hx _ => ?ee))) (fun g ⟨p, a, b⟩ => ⟨p, a, g.lst b⟩) (fun x H2 g2 hx => Ls.toR (l_lst g_nil (by decide))) (fun x y H2 g2 ⟨p1, ex, h1⟩ ⟨p2, ey, h2⟩ => ?oo))) ?ff
      case tt =>
        have ex : xs.getD m .non = x := by rw [List.getD_eq_getElem?_getD, hx]; rfl
        rw [ex]
        exact s_not (s_B (v_strT (v_slot rfl) ((th x (List.mem_of_getElem? hx)).mono (e1.trans g2))))
      case ee =>
        have ex : xs.getD m .non = x := by rw [List.getD_eq_getElem?_getD, hx]; rfl
        rw [ex]
        exact v_slot rfl
      case oo =>
        subst ex ey
        exact XE.bi_neNil (SqL.of h1) (SqL.of h2)
      case ff =>
        unfold out
        rw [List.isEmpty_map, no_words]
    by_cases hs : xs.all strV = true
    rotate_left
    · refine B_when (b := true) (s_or (b := true) (c := false) (Ts.is (flt rfl) (by rw [Bool.not_eq_true _ |>.mp hs]; rfl)) fun z => nomatch z) (fun _ H2 e2 => ?_) fun z => nomatch z
      refine S_ret v_con (no _ (e1.trans e2) ?_)
      cases e : rowV xs with
      | false => rfl
      | true => exact absurd (rowV_strs e) hs
    have flt' : Ts _ _ H1 false := Ts.is (flt rfl) (by rw [hs]; rfl)
    obtain ⟨l, rfl⟩ := all_strs hs
    rw [List.length_map] at hb
    have sl : ∀ z ∈ l, z.length ≤ 100000 := fun z hz => by
      rcases th (.str z) (List.mem_map.mpr ⟨z, hz, rfl⟩) with ⟨z', e, h⟩ | ⟨_, h⟩
      · cases e
        exact h
      · exact absurd rfl (h z)
    have hp1 := e1.tup hp
    match l, hb, hp1, sl, flt', no, q with
    | [], hb, _, _, _, _, _ => exact absurd hb (by simp)
    | [_], hb, _, _, _, _, _ => exact absurd hb (by simp)
    | _ :: _ :: _ :: _ :: _, hb, _, _, _, _, _ => exfalso; simp only [List.length_cons] at hb; omega
    | [a, b], hb, hp1, sl, flt', no, q =>
      refine B_when (b := !nameB b) (Ts.is (s_or (b := false) flt' fun _ => s_not (s_B (v_call (g_cons (v_op (v_slot rfl) v_con (bi_ixT (SqT.of hp1) rfl)) g_nil) (sv_namef (sl b (by simp)))))) (Bool.false_or _)) (fun hn H2 e2 => ?_) fun hn H2 e2 => ?_
      · refine S_ret v_con (no _ (e1.trans e2) ?_)
        rw [Bool.not_eq_true'] at hn
        show (wordV _ _ && nameB b) = false
        rw [hn, Bool.and_false]
      rw [Bool.not_eq_false'] at hn
      refine B_when (b := false) (Ts.is (s_test (v_op (v_lenT (v_slot rfl) (SqT.of (e2.tup hp1))) v_con (bi_eq rfl))) rfl) (fun z => nomatch z) fun _ H3 e3 => ?_
      have g3 := e2.trans e3
      refine S_ret (in_listS (l := ["left", "asked", "eased"]) (v_op (v_slot rfl) v_con (bi_ixT (SqT.of (g3.tup hp1)) rfl)) (l_lst (g_cons v_con (g_cons v_con (g_cons v_con g_nil))) (show 3 ≤ 100000 by decide))) fun H4 e4 => ?_
      have : rowV ([a, b].map V.str) = decide (a ∈ (["left", "asked", "eased"] : List Str)) := by
        show (wordV _ _ && nameB b) = _
        rw [hn, Bool.and_true]
        rfl
      rw [this] at q
      exact q H4 (e1.trans (g3.trans e4))
    | [a, b, c], hb, hp1, sl, flt', no, q =>
      refine B_when (b := !nameB b) (Ts.is (s_or (b := false) flt' fun _ => s_not (s_B (v_call (g_cons (v_op (v_slot rfl) v_con (bi_ixT (SqT.of hp1) rfl)) g_nil) (sv_namef (sl b (by simp)))))) (Bool.false_or _)) (fun hn H2 e2 => ?_) fun hn H2 e2 => ?_
      · refine S_ret v_con (no _ (e1.trans e2) ?_)
        rw [Bool.not_eq_true'] at hn
        show (wordV _ _ && (nameB b && _)) = false
        rw [hn, Bool.false_and, Bool.and_false]
      rw [Bool.not_eq_false'] at hn
      refine B_when (b := true) (Ts.is (s_test (v_op (v_lenT (v_slot rfl) (SqT.of (e2.tup hp1))) v_con (bi_eq rfl))) rfl) (fun _ H3 e3 => ?_) fun z => nomatch z
      have g3 := e2.trans e3
      refine S_ret (v_and (in_listS (l := ["came", "begins"]) (v_op (v_slot rfl) v_con (bi_ixT (SqT.of (g3.tup hp1)) rfl)) (l_lst (g_cons v_con (g_cons v_con g_nil)) (show 2 ≤ 100000 by decide))) fun _ => in_listS (l := [rd, wr]) (v_op (v_slot rfl) v_con (bi_ixT (SqT.of (g3.tup hp1)) rfl)) (l_lst (g_cons v_con (g_cons v_con g_nil)) (show 2 ≤ 100000 by decide))) fun H4 e4 => ?_
      have : rowV ([a, b, c].map V.str) = (decide (a ∈ (["came", "begins"] : List Str)) && decide (c ∈ ([rd, wr] : List Str))) := by
        show (wordV _ _ && (nameB b && (decide (c = rd) || decide (c = wr)))) = _
        rw [hn, Bool.true_and]
        congr 1
        simp
      rw [this] at q
      exact q H4 (e1.trans (g3.trans e4))

--CUT
/-! ### the journal, told by plain lists -/
theorem Now.people_none : Now.none.people = 0 := rfl
def spJournalF (K : PySem.W.Frag) : Sp := fun vs H Q _ => ∃ (a : Addr) (ns : List Int) (seats pat : Int), vs = [.ref a, .int seats, .int pat] ∧ SqL K H a (ns.map V.int) ∧ ns.length ≤ 63 ∧ RR_ (fun v H1 => ∃ p ys rows, v = .ref p ∧ H1 p = some (.lst ys) ∧ TupsAt H1 JRow.vs ys rows ∧ rows.length ≤ 800 ∧ ∀ x ∈ rows, x.ok) H Q
theorem u_catT {K : PySem.W.Frag} {σ : L2.St} {H : Hp} {t1 t2 : TE} {xs ys : List V} (a : Tu t1 σ H xs) (b : Tu t2 σ H ys) (n1 : xs ≠ []) (n2 : ys ≠ []) (n : xs.length + ys.length ≤ 100000) : Tu (tOp (rCatT K) t1 t2) σ H (xs ++ ys) := fun H1 Q g r => a H1 _ g fun p H2 hp g2 e2 => b H2 _ (g.trans g2) fun q H3 hq g3 e3 =>
  ⟨p, q, xs, ys, rfl, rfl, SqT.of (g3.tup e2), SqT.of e3, n1, small n, fun z => absurd z n2, fun _ l hl => r l _ ((g2.trans g3).free hl) ((g2.trans g3).trans (.new hl)) upd_same⟩
theorem u_pair {σ : L2.St} {H : Hp} {a1 : TA} {E : XK} {pj : Addr} {sj : Now} {i : Int} {ds : List V} {L : Addr → Prop} (h : Ag a1 σ H [.ref pj, .int i]) (n : NowAt L H pj sj) (p : sj.pair i (sj.pr i).1 (sj.pr i).2) : Tu (tCall spPair [] E a1) σ H (P2.vs (sj.pr i)) := fun H1 Q g q => h H1 _ g fun H2 g2 => ⟨pj, sj, i, _, _, rfl, (n.mono (g.trans g2)).any, p, fun v H3 g3 ⟨t, b1, b2, b3⟩ => by
  subst b1
  exact q t H3 (g2.free b2) (g2.trans g3) b3⟩
theorem ok_JournalF (T : Top K mg) (TB : Tabs T base) : FnOk P w K mg base CX0 3 T.f_JournalF T.fd_JournalF ["_law_script", "_law_seats_here", "_law_patience_here"] (spJournalF K) := by
  have GCell := ok_Cell (P := P) (w := w) (base := base) T TB
  have GNames := ok_Names (P := P) (w := w) (base := base) T TB
  have GCrowd := ok_Crowd (P := P) (w := w) (base := base) T TB
  have GFresh := ok_Fresh (P := P) (w := w) (base := base) T TB
  have GDeedBy := ok_DeedBy (P := P) (w := w) (base := base) T TB
  have GInside := ok_Inside (P := P) (w := w) (base := base) T TB
  have GRefused := ok_Refused (P := P) (w := w) (base := base) T TB
  have GDone := ok_Done (P := P) (w := w) (base := base) T TB
  have GRowF := ok_RowF (P := P) (w := w) (base := base) T TB
  have GNext := ok_Next (P := P) (w := w) (base := base) T TB
  have GPair := ok_Pair (P := P) (w := w) (base := base) T TB
  have GBegan := ok_Began (P := P) (w := w) (base := base) T TB
  refine T.F_JournalF.ok scJournalF (fun vs H Q E h => ?_) (fun cdv A outer s H vs Q E hr h => ?_)
  · obtain ⟨a, ns, seats, pat, rfl, hS, hlen, q⟩ := h
    rfl
  · obtain ⟨a, ns, seats, pat, rfl, hS, hlen, q⟩ := h
    refine ⟨_, (pss_cons (ps_set (i := 3) scJournalF.nd rfl (Or.inl rfl) (pe_op op_add pe_int (pe_op op_modN (pe_call GCell (hr.mono (by decide)) (by rfl) T.g_Cell T.F_Cell.kp T.B_Cell .nil pass0 (pa_cons (pv 0) (pa_cons pe_int pa_nil))) pe_int)))
      (pss_cons (ps_set (i := 4) scJournalF.nd rfl (Or.inl rfl) (pe_call GNames hr (by rfl) T.g_Names T.F_Names.kp T.B_Names .nil pass0 (pa_cons (pv 0) (pa_cons (pv 3) pa_nil))))
      (pss_cons (ps_set (i := 5) scJournalF.nd rfl (Or.inl rfl) (pe_call GCrowd hr (by rfl) T.g_Crowd T.F_Crowd.kp T.B_Crowd .nil pass0 (pa_cons (pv 0) (pa_cons (pv 3) pa_nil))))
      (pss_cons (ps_set (i := 6) scJournalF.nd rfl (Or.inl rfl) (pe_call0 GFresh (hr.mono (by decide)) (by rfl) T.g_Fresh T.F_Fresh.kp T.B_Fresh .nil pass0))
      (pss_cons (ps_set (i := 7) scJournalF.nd rfl (Or.inl rfl) (pe_lst pa_nil))
      (pss_cons (ps_for PassesOwn.never rfl (pi_range1 (by rfl) T.m_range (pa_cons (pe_op op_add (pe_callB call_len_seq (by rfl) T.m_len PySem.boot_len (pa_cons (pv 5) pa_nil)) (pe_callB (call_max2 rfl) (by rfl) T.m_max (by decide +kernel) (pa_cons pe_int (pa_cons (pe_op op_sub (pe_callB call_len_seq (by rfl) T.m_len PySem.boot_len (pa_cons (pv 0) pa_nil)) pe_int) pa_nil)))) pa_nil)) (pg_name (i := 8) scJournalF.nd rfl (Or.inl rfl))
      (Evl.pss_cut (ps_if (pt_cmpR op_lt (pv 8) (pe_callB call_len_seq (by rfl) T.m_len PySem.boot_len (pa_cons (pv 5) pa_nil)) (nomark _))
      (pss_one (ps_set (i := 9) scJournalF.nd rfl (Or.inl rfl) (pe_ix ix_list (pv 5) (pv 8) (fun _ _ => rfl))))
      (pss_cons (ps_setLc (i := 10) (own := [("_law_one", 12)]) rfl scJournalF.nd rfl rfl (sw_true rfl rfl rfl (by decide +kernel)) (pi_list (pe_dget (hu_of hr) (pv 6) pe_str (fun _ _ => rfl))) (blkOk_by (own := [("_law_one", 12)]) (N := nmJournalF) (sc := defScope sJournalF) (by decide +kernel)) (fun _ _ _ _ _ => (pg_name (i := 12) scJournalF.nd rfl (Or.inl rfl))) (fun _ _ _ _ _ => pts_nil) (fun _ _ _ _ _ => (pe_ix (r := rIxT K) ix_tup (pv 12) pe_int (fun _ _ => rfl))))
      (pss_one (ps_set (i := 9) scJournalF.nd rfl (Or.inl rfl) (pe_call GDeedBy hr (by rfl) T.g_DeedBy T.F_DeedBy.kp T.B_DeedBy .nil pass0 (pa_cons (pe_ix ix_list (pv 0) (pe_op op_sub (pe_op op_add pe_int (pv 8)) (pe_callB call_len_seq (by rfl) T.m_len PySem.boot_len (pa_cons (pv 5) pa_nil))) (fun _ _ => rfl)) (pa_cons (pv 4) (pa_cons (pe_call GInside (hr.mono (by decide)) (by rfl) T.g_Inside T.F_Inside.kp T.B_Inside .nil pass0 (pa_cons (pv 6) pa_nil)) (pa_cons (pv 10) pa_nil)))))))))
      (pss_one (ps_if (pt_not (pt_val (pe_call GRefused hr (by rfl) T.g_Refused T.F_Refused.kp T.B_Refused .nil pass0 (pa_cons (pv 6) (pa_cons (pv 9) pa_nil)))))
      (pss_cons (ps_set (i := 6) scJournalF.nd rfl (Or.inl rfl) (pe_call GDone (hr.mono (by decide)) (by rfl) T.g_Done T.F_Done.kp T.B_Done .nil pass0 (pa_cons (pv 6) (pa_cons (pv 9) pa_nil))))
      (pss_cons (ps_expr (pe_bm PySem.F.plainAttrs_list PySem.F.slot_list_append PySem.F.type_list_append mt_append (pv 7) (pa_cons (pe_call GRowF (hr.mono (by decide)) (by rfl) T.g_RowF T.F_RowF.kp T.B_RowF .nil pass0 (pa_cons (pv 9) pa_nil)) pa_nil)))
      (pss_cons (ps_set (i := 11) scJournalF.nd rfl (Or.inl rfl) (pe_call GNext (hr.mono (by decide)) (by rfl) T.g_Next T.F_Next.kp T.B_Next .nil pass0 (pa_cons (pv 6) (pa_cons (pv 1) (pa_cons (pv 2) pa_nil)))))
      (pss_one (ps_while PassesOwn.never (pt_cmpR op_notN (pv 11) pe_non (nomark _))
      (pss_cons (ps_expr (pe_bm PySem.F.plainAttrs_list PySem.F.slot_list_append PySem.F.type_list_append mt_append (pv 7) (pa_cons (pe_op op_catT (pe_tup (pa_cons pe_str pa_nil)) (pe_call GPair (hr.mono (by decide)) (by rfl) T.g_Pair T.F_Pair.kp T.B_Pair .nil pass0 (pa_cons (pv 6) (pa_cons (pv 11) pa_nil)))) pa_nil)))
      (pss_cons (ps_set (i := 6) scJournalF.nd rfl (Or.inl rfl) (pe_call GBegan (hr.mono (by decide)) (by rfl) T.g_Began T.F_Began.kp T.B_Began .nil pass0 (pa_cons (pv 6) (pa_cons (pv 11) pa_nil))))
      (pss_one (ps_set (i := 11) scJournalF.nd rfl (Or.inl rfl) (pe_call GNext (hr.mono (by decide)) (by rfl) T.g_Next T.F_Next.kp T.B_Next .nil pass0 (pa_cons (pv 6) (pa_cons (pv 1) (pa_cons (pv 2) pa_nil)))))))))))))
      pss_nil))))
      (pss_one (ps_ret (pv 7))))))))), ?_⟩
    refine slots (start_JournalF _ _ _) ?_
    refine B_set (v_op v_con (v_op (v_call (g_cons (v_slot rfl) (g_cons v_con g_nil)) (sv_cell 2 rfl hS)) v_con (bi_C (show (12 : Int) ≠ 0 by decide))) bi_0) fun H3 g3 => ?_
    walk_at "n"
    have b12 := fmod_in (cellAt ns 2) (m := 12) (by decide)
    obtain ⟨many, em, m1, m2⟩ : ∃ many : Nat, (1 : Int) + (cellAt ns 2).fmod 12 = (many : Int) ∧ 1 ≤ many ∧ many ≤ 12 := ⟨(1 + (cellAt ns 2).fmod 12).toNat, by omega, by omega, by omega⟩
    rw [em]
    refine B_setR (r_call (g_cons (v_slot rfl) (g_cons (v_slot rfl) g_nil)) fun Hx Qx Ex gx qx => ⟨a, ns, many, rfl, (g3.trans gx).sl hS, m1, m2, qx⟩) fun v H4 e4 ⟨pp, ps, ev, hpp, lp1, lp2, np⟩ => ?_
    subst ev
    walk_at "n"
    have g4 := g3.trans e4
    refine B_setR (R := Deeds H4) (r_call (g_cons (v_slot rfl) (g_cons (v_slot rfl) g_nil)) fun Hx Qx Ex gx qx => ⟨a, ns, many, rfl, (g4.trans gx).sl hS, m1, m2, fun v H7 g7 ⟨pd, ys, ds, b1, b2, b3⟩ => qx v H7 g7 ⟨pd, ys, ds, b1, gx.free b2, b3⟩⟩) fun v H5 e5 ⟨pd, ys, ds, ev, nd, hpd, tds, lds, gds⟩ => ?_
    subst ev
    walk_at "n"
    have g5 := g4.trans e5
    refine B_setR (R := NewNow noL H5 Now.none) (fun Hx Qx gx qx => ⟨noL, rfl, fun b hb => hb.elim, fun v H8 g8 ⟨p8, c1, c2, c3⟩ => qx v H8 g8 ⟨p8, c1, gx.free c2, c3⟩⟩) fun v H6 e6 ⟨pn, ev, _, hN⟩ => ?_
    subst ev
    walk_at "n"
    have g6 := g5.trans e6
    refine B_setL (l_lst g_nil (show 0 ≤ 100000 by decide)) fun prow H7 nrow e7 hrow => ?_
    walk_at "n"
    have hpp6 := (e5.trans e6).lst hpp
    have hpd6 := e6.lst hpd
    have cx7 : Ctx K (fun b => b = prow) a pp pd ns ps ys ds H7 := ⟨.of hS (g6.trans e7) (fun b e => by rw [e]; exact g6.free nrow), e7.lst hpp6, (fun e => by rw [e, nrow] at hpp6; cases hpp6), e7.lst hpd6, (tds.mono e6).mono e7, (fun e => by rw [e, nrow] at hpd6; cases hpd6)⟩
    have hN7 : NowAt (fun b => b = prow) H7 pn Now.none := ((hN.more nrow).weak fun b e => .inr e).mono e7
    have ly := tds.length
    have lns : (ns.map V.int).length = ns.length := List.length_map ..
    obtain ⟨turns, et, ht⟩ : ∃ turns : Nat, ((ys.length : Int) + (if ((ns.map V.int).length : Int) - 6 > 0 then ((ns.map V.int).length : Int) - 6 else 0)) = (turns : Int) ∧ turns = ds.length + (ns.length - 6) := ⟨_, by rw [lns, ly]; split <;> omega, rfl⟩
    have g7 := g6.trans e7
    refine B_for1 (n := (turns : Int)) (Ag_is (g_cons (v_op (v_len (v_slot rfl) (SqL.of cx7.dds)) (v_max v_con (v_op (v_len (v_slot rfl) cx7.scr.sl) v_con bi_0)) bi_0) g_nil) (by rw [← et])) (by omega)
      (fun m σ' H' => ∃ (s : Now) (rows : List JRow) (pn : Addr) (rys : List V) (y8 y9 y10 y11 y12 : Option V), σ' = [some (.ref a), some (.int seats), some (.int pat), some (.int (many : Int)), some (.ref pp), some (.ref pd), some (.ref pn), some (.ref prow), y8, y9, y10, y11, y12] ∧
        NowAt (fun b => b = prow) H' pn s ∧ s.ok ∧ Lim m s rows ∧ Ctx K (fun b => b = prow) a pp pd ns ps ys ds H' ∧ H' prow = some (.lst rys) ∧ TupsAt H' JRow.vs rys rows ∧ (∀ x ∈ rows, x.ok) ∧ Ch (fun b => b = prow) H7 H')
      (fun H8 e8 => ⟨Now.none, [], pn, [], _, _, _, _, _, rfl, hN7.mono e8, none_ok, none_lim, cx7.mono e8, e8.lst hrow, .nil, fun x hx => absurd hx List.not_mem_nil, .of e8⟩) ?hs ?hd
    case hd =>
      rintro σ' H8 ⟨s, rows, pn, rys, y8, y9, y10, y11, y12, rfl, _, _, lim, _, hr8, tr8, ok8, c8⟩
      have bk : rows.length + s.left ≤ 2 * turns := lim.book
      refine S_ret (v_slot rfl) fun H9 e9 => q _ H9 ?_ ⟨prow, rys, rows, rfl, e9.lst hr8, tr8.mono e9, by omega, ok8⟩
      exact ((Ch.of g7).trans (c8.gr e9)).toGr fun b e => by rw [e]; exact g6.free nrow
    rintro m σ' H8 hm ⟨s, rows, pn, rys, y8, y9, y10, y11, y12, rfl, n8, o, lim, c8, hr8, tr8, ok8, ch8⟩
    have hm' : m < ds.length + (ns.length - 6) := by omega
    have ppl : s.people ≤ m := lim.ppl
    have og := o.good (show s.people ≤ 10000 by omega)
    walk_at "n"
    refine B_cut (M := fun σ' H' => ∃ (po : Addr) (d : Deed) (y10 y11 y12 : Option V), σ' = [some (.ref a), some (.int seats), some (.int pat), some (.int (many : Int)), some (.ref pp), some (.ref pd), some (.ref pn), some (.ref prow), some (.int (m : Int)), some (.ref po), y10, y11, y12] ∧ Gr H8 H' ∧ H' po = some (.tup d.vs) ∧ d.good) ?c1 ?c2
    case c1 =>
      obtain ⟨qa, ra, xs, h1, h2, h3, h4, _⟩ := id n8
      have lx := h3.length
      have ql := og.1.1
      have rl := og.1.2
      refine S_if (s_test (v_op (v_slot rfl) (v_len (v_slot rfl) (SqL.of c8.dds)) bi_0)) (fun hb H9 e9 => ?_) fun hb H9 e9 => ?_
      · have hb := of_decide_eq_true hb
        obtain ⟨pt, hpt, ht⟩ := c8.tds.get m (List.getElem?_eq_getElem (show m < ds.length by omega))
        exact S_set (v_op (v_slot rfl) (v_slot rfl) (bi_ixL (SqL.of (e9.lst c8.dds)) (atI_nat hpt))) fun H10 e10 => ⟨pt, _, _, _, _, rfl, e9.trans e10, (e9.trans e10).tup ht, gds _ (List.getElem_mem _)⟩
      · have hb := of_decide_eq_false hb
        refine B_setR (Ls.toN (l_cmpL (fun _ => true) (fun m => V.str (s.queue.getD m ⟨"", "", 0⟩).who) (v_nowQ (v_slot rfl) (e9.dK h1)) (SqL.of (e9.lst h2)) (by omega) (fun _ => rfl) (fun m u H8 e8 hu => s_yes) (fun m u H8 e8 hu _ => ?er))) fun v H10 e10 ⟨pw, ev, _, hpw⟩ => ?_
        case er =>
          have hm' : m < s.queue.length := by
            have := (List.getElem?_eq_some_iff.mp hu).1
            omega
          obtain ⟨pt, hpt, ht⟩ := h3.get m (List.getElem?_eq_getElem hm')
          rw [hu] at hpt
          obtain rfl := Option.some.inj hpt
          rw [List.getD_eq_getElem?_getD, List.getElem?_eq_getElem hm']
          exact v_op (v_slot rfl) v_con (bi_ixT (SqT.of ((e9.trans e8).tup ht)) rfl)
        subst ev
        walk_at "n"
        have eo : out xs.length (fun _ => true) (fun m => V.str (s.queue.getD m ⟨"", "", 0⟩).who) = (s.queue.map QE.who).map V.str := by
          rw [lx]
          unfold out
          rw [List.filter_eq_self.mpr (fun _ _ => rfl), range_get s.queue ⟨"", "", 0⟩ fun e => V.str e.who, List.map_map]
          rfl
        rw [eo] at hpw
        have g10 := e9.trans e10
        have cS := (c8.mono g10).scr.sl
        have hi : (6 : Int) + (m : Int) - (ys.length : Int) = ((6 + m - ds.length : Nat) : Int) := by omega
        have hcell : (ns.map V.int)[6 + m - ds.length]? = some (V.int (ns.getD (6 + m - ds.length) 0)) := by
          rw [List.getElem?_map, List.getD_eq_getElem?_getD, List.getElem?_eq_getElem (show 6 + m - ds.length < ns.length by omega)]
          rfl
        have inl : s.inside.length ≤ 40000 := by
          unfold Now.inside
          cases s.alone with
          | none => exact Nat.le_trans rl (by decide)
          | some _ => exact (show 1 ≤ 40000 by decide)
        have inn : ∀ x ∈ s.inside, nameB x = true := by
          unfold Now.inside
          cases hal : s.alone with
          | none => exact o.rn
          | some y => exact fun x hx => by rw [List.mem_singleton.mp hx]; exact o.an y hal
        refine S_setR (R := fun v H1 => ∃ p d, v = .ref p ∧ H1 p = some (.tup (Deed.vs d)) ∧ d.good) (fun Hx Qx gx qx => v_op (v_slot rfl) (Vl.is (v_op (v_op v_con (v_slot rfl) bi_0) (v_len (v_slot rfl) (SqL.of (g10.lst c8.dds))) bi_0) (congrArg V.int hi)) (bi_ixL cS (atI_nat hcell)) Hx _ gx fun Hy gy => v_slot rfl Hy _ (gx.trans gy) fun Ho go => v_slot (v := .ref pn) rfl Ho _ ((gx.trans gy).trans go) fun Hz gz' => ?_) fun v H11 e11 ⟨po, d, ev, hpo, gd⟩ => ?_
        · have gz := go.trans gz'
          have gg := (gx.trans gy).trans gz
          refine ⟨pn, s, rfl, ((n8.mono (g10.trans gg)).any), fun v Hw gw ⟨pi, ev, hpi⟩ => ?_⟩
          subst ev
          refine v_slot rfl Hw _ (gg.trans gw) fun Hu gu => ⟨_, pp, pi, pw, ps, s.inside, s.queue.map QE.who, rfl, SqL.of ((c8.mono (g10.trans ((gg.trans gw).trans gu))).ppl), SqL.of (gu.lst hpi), SqL.of (((gg.trans gw).trans gu).lst hpw), lp1, by omega, inl, by rw [List.length_map]; omega, np, inn, fun v Hv gv k => qx v Hv ((((gy.trans gz).trans gw).trans gu).trans gv) k⟩
        · subst ev
          exact ⟨po, d, _, _, _, rfl, g10.trans e11, hpo, gd⟩
    rintro σ' H9 ⟨po, d, y10, y11, y12, rfl, e9, hpo, gd⟩
    have n9 := n8.mono e9
    have hr9 := e9.lst hr8
    refine S_when (b := !s.refused d) (s_not (s_B (v_call (g_cons (v_slot rfl) (g_cons (v_slot rfl) g_nil)) fun Hx Qx Ex gx qx => ⟨pn, po, s, d, d.vs, rfl, (n9.mono gx).any, og.1, gx.tup hpo, .inl rfl, qx⟩))) (fun rf H10 e10 => ?_) fun rf H10 e10 => ?_
    · rw [Bool.not_eq_true'] at rf
      have g10 := e9.trans e10
      have hr10 := g10.lst hr8
      have lry := tr8.length
      have bk8 := lim.book
      have od := o.done gd rf
      obtain ⟨pr, s', st⟩ := settles_ex (seats := seats) (pat := pat) _ _ od (Nat.le_refl _)
      obtain ⟨o', lim'⟩ := lim.next (row := d.row) (f := begRow) o gd rf st
      have pd1 : (s.done d).people ≤ s.people + 1 := (Now.done_sizes o gd rf).1
      have bk := lim'.book
      rw [List.length_append, List.length_cons, List.length_map] at bk
      have lv10 : Live (fun b => b = prow) H10 := fun b e z => by rw [e, hr10] at z; cases z
      refine B_setR (R := NewNow (fun b => b = prow) H10 (s.done d)) (r_call (g_cons (v_slot rfl) (g_cons (v_slot rfl) g_nil)) fun Hx Qx Ex gx qx => ⟨_, pn, po, s, d, d.vs, rfl, lv10.mono gx, (n9.mono e10).mono gx, og.1, (e10.trans gx).tup hpo, .inl rfl, gd, fun v Hy gy ⟨p, b1, b2, b3⟩ => qx v Hy gy ⟨p, b1, gx.free b2, b3⟩⟩) fun v H11 e11 ⟨pm, ev, _, hM⟩ => ?_
      subst ev
      walk_at "n"
      have g11 := g10.trans e11
      refine B_appR (R := fun v H1 => ∃ t, v = .ref t ∧ H1 t = some (.tup d.row.vs)) (g11.lst hr8) (v_slot rfl) (r_call (g_cons (v_slot rfl) g_nil) fun Hx Qx Ex gx qx => ⟨po, d, rfl, ((e10.trans e11).trans gx).tup hpo, fun v Hy gy ⟨t, b1, _, b2⟩ => qx v Hy gy ⟨t, b1, b2⟩⟩) (by omega) fun v H12 e12 ⟨t, ev, ht12⟩ => ?_
      subst ev
      have g12 := g11.trans e12
      have hr12 := g12.lst hr8
      have ntp : ∀ b, b = prow → ∀ ts, H12 b ≠ some (.tup ts) := fun b e ts z => by rw [e, hr12] at z; cases z
      have n13 := (hM.mono e12).ch (H' := upd H12 prow (.lst (rys ++ [.ref t]))) (Ch.put (L := fun b => b = prow) (.refl _) rfl) ntp
      have tr13 : TupsAt (upd H12 prow (.lst (rys ++ [.ref t]))) JRow.vs (rys ++ [.ref t]) (rows ++ [d.row]) := ((tr8.mono g12).snoc ht12).chg fun ts z => by rw [hr12] at z; cases z
      have c13 : Ch (fun b => b = prow) H8 (upd H12 prow (.lst (rys ++ [.ref t]))) := (Ch.of g12).put rfl
      have hr13 : (upd H12 prow (.lst (rys ++ [.ref t]))) prow = some (.lst (rys ++ [.ref t])) := upd_same
      generalize upd H12 prow (.lst (rys ++ [.ref t])) = H13 at n13 tr13 c13 hr13 ⊢
      refine B_set (v_call (g_cons (v_slot rfl) (g_cons (v_slot rfl) (g_cons (v_slot rfl) g_nil))) fun Hx Qx Ex gx qx => ⟨pm, s.done d, _, _, rfl, (n13.mono gx).any, od.good (show (s.done d).people ≤ 10000 by omega), qx⟩) fun H14 e14 => ?_
      walk_at "n"
      refine S_while (fun k σ' H' => ∃ (dl rest : List (Str × Str)) (sj : Now) (pj : Addr) (rz : List V), σ' = [some (.ref a), some (.int seats), some (.int pat), some (.int (many : Int)), some (.ref pp), some (.ref pd), some (.ref pj), some (.ref prow), some (.int (m : Int)), some (.ref po), y10, some (optI (sj.next seats pat)), y12] ∧ Ch (fun b => b = prow) H8 H' ∧ NowAt (fun b => b = prow) H' pj sj ∧ H' prow = some (.lst rz) ∧ TupsAt H' JRow.vs rz (rows ++ d.row :: dl.map begRow) ∧ sj.ok ∧ sj.people ≤ 10000 ∧ Settles seats pat sj rest s' ∧ pr = dl ++ rest ∧ k = rest.length)
        pr.length ⟨[], pr, s.done d, pm, rys ++ [.ref t], rfl, c13.gr e14, n13.mono e14, e14.lst hr13, tr13.mono e14, od, by omega, st, rfl, rfl⟩ ?_
      rintro k σ' H15 ⟨dl, rest, sj, pj, rz, rfl, c15, n15, hr15, tr15, oj, pj1, stj, epr, rfl⟩
      have ld : dl.length + rest.length = pr.length := by rw [epr, List.length_append]
      cases nx : sj.next seats pat with
      | some i =>
        refine ⟨true, Ts.is (s_test (v_op (v_slot rfl) v_con bi_notN)) rfl, (fun _ H16 e16 => ?_), fun z => nomatch z⟩
        obtain ⟨p, rest', rfl⟩ : ∃ p rest', rest = p :: rest' := by
          cases stj with
          | stop e => rw [e] at nx; cases nx
          | step e k => exact ⟨_, _, rfl⟩
        obtain ⟨i', nx', ep', stn⟩ := settles_cons stj
        rw [nx] at nx'
        cases nx'
        subst ep'
        have lrz := tr15.length
        rw [List.length_append, List.length_cons, List.length_map] at lrz
        rw [List.length_cons] at ld
        refine ⟨fun σ' H' => ∃ k', k' < (sj.pr i :: rest').length ∧ ∃ (dl rest : List (Str × Str)) (sj : Now) (pj : Addr) (rz : List V), σ' = [some (.ref a), some (.int seats), some (.int pat), some (.int (many : Int)), some (.ref pp), some (.ref pd), some (.ref pj), some (.ref prow), some (.int (m : Int)), some (.ref po), y10, some (optI (sj.next seats pat)), y12] ∧ Ch (fun b => b = prow) H8 H' ∧ NowAt (fun b => b = prow) H' pj sj ∧ H' prow = some (.lst rz) ∧ TupsAt H' JRow.vs rz (rows ++ d.row :: dl.map begRow) ∧ sj.ok ∧ sj.people ≤ 10000 ∧ Settles seats pat sj rest s' ∧ pr = dl ++ rest ∧ k' = rest.length, fun σ2 H2 z => z, ?_⟩
        refine B_appU (ys := (begRow (sj.pr i)).vs) (e16.lst hr15) (v_slot rfl) (u_catT (u_tup (g_cons v_con g_nil) (show 1 ≤ 100000 by decide)) (u_pair (ds := []) (g_cons (v_slot rfl) (g_cons (v_slot rfl) g_nil)) (n15.mono e16) (pair_of oj nx)) (fun z => nomatch z) (fun z => nomatch z) (show 1 + 2 ≤ 100000 by decide)) (by omega) fun t3 H17 n17 e17 ht17 => ?_
        have g17 := e16.trans e17
        have hr17 := g17.lst hr15
        have nt17 : ∀ b, b = prow → ∀ ts, H17 b ≠ some (.tup ts) := fun b e ts z => by rw [e, hr17] at z; cases z
        have n18 := (n15.mono g17).ch (H' := upd H17 prow (.lst (rz ++ [.ref t3]))) (Ch.put (L := fun b => b = prow) (.refl _) rfl) nt17
        have tr18 : TupsAt (upd H17 prow (.lst (rz ++ [.ref t3]))) JRow.vs (rz ++ [.ref t3]) ((rows ++ d.row :: dl.map begRow) ++ [begRow (sj.pr i)]) := ((tr15.mono g17).snoc ht17).chg fun ts z => by rw [hr17] at z; cases z
        have c18 : Ch (fun b => b = prow) H8 (upd H17 prow (.lst (rz ++ [.ref t3]))) := (c15.gr g17).put rfl
        have hr18 : (upd H17 prow (.lst (rz ++ [.ref t3]))) prow = some (.lst (rz ++ [.ref t3])) := upd_same
        generalize upd H17 prow (.lst (rz ++ [.ref t3])) = H18 at n18 tr18 c18 hr18 ⊢
        have lv18 : Live (fun b => b = prow) H18 := fun b e z => by rw [e, hr18] at z; cases z
        refine B_setR (R := NewNow (fun b => b = prow) H18 (sj.began i)) (r_call (g_cons (v_slot rfl) (g_cons (v_slot rfl) g_nil)) fun Hx Qx Ex gx qx => ⟨_, pj, sj, i, rfl, lv18.mono gx, n18.mono gx, (oj.good pj1).1, next_place_of nx oj, fun v Hy gy ⟨p, b1, b2, b3⟩ => qx v Hy gy ⟨p, b1, gx.free b2, b3⟩⟩) fun v H19 e19 ⟨pk, ev, _, hK⟩ => ?_
        subst ev
        walk_at "n"
        have ok' := oj.began nx
        have pk1 : (sj.began i).people ≤ 10000 := by rw [Now.began_people oj nx]; exact pj1
        refine S_set (v_call (g_cons (v_slot rfl) (g_cons (v_slot rfl) (g_cons (v_slot rfl) g_nil))) fun Hx Qx Ex gx qx => ⟨pk, sj.began i, _, _, rfl, (hK.mono gx).any, ok'.good pk1, qx⟩) fun H20 e20 => ?_
        have g20 := e19.trans e20
        have er : (rows ++ d.row :: dl.map begRow) ++ [begRow (sj.pr i)] = rows ++ d.row :: (dl ++ [sj.pr i]).map begRow := by
          rw [List.map_append, List.append_assoc]
          rfl
        rw [er] at tr18
        exact ⟨rest'.length, Nat.lt_succ_self _, dl ++ [sj.pr i], rest', sj.began i, pk, _, rfl, c18.gr g20, hK.mono e20, g20.lst hr18, tr18.mono g20, ok', pk1, stn, by rw [epr, List.append_assoc]; rfl, rfl⟩
      | none =>
        refine ⟨false, Ts.is (s_test (v_op (v_slot rfl) v_con bi_notN)) rfl, (fun z => nomatch z), fun _ H16 e16 => ?_⟩
        obtain ⟨rfl, rfl⟩ : rest = [] ∧ sj = s' := by
          cases stj with
          | stop e => exact ⟨rfl, rfl⟩
          | step e k => rw [e] at nx; cases nx
        rw [List.append_nil] at epr
        subst epr
        have nt8 : ∀ b, b = prow → ∀ ts, H8 b ≠ some (.tup ts) := fun b e ts z => by rw [e, hr8] at z; cases z
        refine ⟨sj, _, pj, rz, _, _, _, _, _, rfl, n15.mono e16, oj, lim', c8.ch (c15.gr e16) nt8, e16.lst hr15, tr15.mono e16, fun x hx => ?_, ch8.trans (c15.gr e16)⟩
        rcases List.mem_append.mp hx with hx | hx
        · exact ok8 x hx
        · rcases List.mem_cons.mp hx with rfl | hx
          · exact deed_ok gd
          · obtain ⟨p, hp, rfl⟩ := List.mem_map.mp hx
            exact beg_ok (st.pok od p hp)
    · have g10 := e9.trans e10
      exact ⟨s, rows, pn, rys, _, _, _, _, _, rfl, n8.mono g10, o, ⟨by have := lim.book; omega, by omega⟩, c8.mono g10, g10.lst hr8, tr8.mono g10, ok8, ch8.gr g10⟩

--CUT
/-! ### rows gone through by plain lists -/
theorem eqv_str_is {d : PyData} {z : Str} (h : PyData.eqv d (.str z) = true) : d = .str z := by
  cases d with
  | str x =>
    have h : (x == z) = true := by simpa only [PyData.eqv] using h
    rw [eq_of_beq h]
  | _ => simp [PyData.eqv] at h
theorem eqvAll_strs : ∀ {ds : List PyData} {l : List Str}, PyData.eqvAll ds (l.map PyData.str) = true → ds = l.map PyData.str
  | [], [], _ => rfl
  | [], _ :: _, h => by simp [PyData.eqvAll] at h
  | _ :: _, [], h => by simp [PyData.eqvAll] at h
  | d :: ds, z :: l, h => by
    rw [List.map_cons] at h ⊢
    simp only [PyData.eqvAll, Bool.and_eq_true] at h
    rw [eqv_str_is h.1, eqvAll_strs h.2]
theorem eqv_tuple_is {d : PyData} {l : List Str} (h : PyData.eqv d (.tuple (l.map PyData.str)) = true) : d = .tuple (l.map PyData.str) := by
  cases d with
  | tuple ds =>
    rw [PyData.eqv] at h
    rw [eqvAll_strs h]
  | _ => simp [PyData.eqv] at h
theorem ok_deed {row : JRow} (ok : row.ok) : (∃ n x, row = (["begins", n, x] : JRow) ∧ deedOf row = none) ∨ ∃ d w tl, deedOf row = some d ∧ d.At row.vs ∧ d.good ∧ row = w :: tl ∧ ¬ w = "begins" := by
  obtain ⟨w, n, hn, ⟨hw, x, hx, rfl⟩ | ⟨hw, rfl⟩⟩ := id ok
  · rcases hw with rfl | rfl
    · exact .inr ⟨⟨wCame, n, x⟩, _, _, rfl, .inl rfl, ⟨.inl rfl, hn, hx⟩, rfl, by decide +kernel⟩
    · exact .inl ⟨n, x, rfl, by rw [deedOf3]; exact if_neg (by decide +kernel)⟩
  · refine .inr ⟨⟨w, n, rd⟩, _, _, by rw [deedOf2]; exact if_pos hw, .inr ⟨?_, rfl⟩, ⟨.inr hw, hn, .inl rfl⟩, rfl, ?_⟩
    · show ¬ w = wCame
      rcases hw with rfl | rfl | rfl <;> decide +kernel
    · rcases hw with rfl | rfl | rfl <;> decide +kernel
theorem item_ne {K : PySem.W.Frag} {H : Hp} {v : V} {o : Option JRow} {t : Addr} {row : JRow} (h : ItemAt K H v o) (ok : row.ok) (ht : H t = some (.tup row.vs)) : Bi (XE.rNeX K) v (.ref t) H (.bl (!decide (o = some row))) := by
  have sh := shaped_row ok.good
  have dt : Dp K H (.ref t) (.tuple (row.map PyData.str)) := .tup (SqT.of ht) (dps_str row)
  cases o with
  | some r2 =>
    obtain ⟨ok2, q, rfl, hq⟩ := h.row
    refine XE.bi_neX (bi_is (bi_neD (.tup (SqT.of hq) (dps_str r2)) dt (shaped_row ok2.good) sh) ?_)
    rw [eqv_tup]
    congr 2
    exact decide_eq_decide.mpr ⟨congrArg _, Option.some.inj⟩
  | none =>
    rw [show (!decide ((none : Option JRow) = some row)) = true from rfl]
    rcases h.dat with ⟨p, kvs, rfl, hp⟩ | ⟨d, hd, sd, nd⟩
    · exact XE.bi_neDT hp (SqT.of ht)
    · refine XE.bi_neX (bi_is (bi_neD hd dt sd sh) ?_)
      cases e : PyData.eqv d (.tuple (row.map PyData.str)) with
      | false => rfl
      | true => exact absurd (eqv_tuple_is e) (nd row ok)
def spGoneF (K : PySem.W.Frag) : Sp := fun vs H Q _ => ∃ (pl : Addr) (xs : List V) (l : List (Option JRow)) (seats pat : Int), vs = [.ref pl, .int seats, .int pat] ∧ H pl = some (.lst xs) ∧ ItemsAt K H xs l ∧ l.length ≤ 5000 ∧ RV (natV (gone seats pat Now.none l 0)) H Q
theorem ok_GoneF (T : Top K mg) (TB : Tabs T base) : FnOk P w K mg base CX0 3 T.f_GoneF T.fd_GoneF ["_law_rows", "_law_seats_here", "_law_patience_here"] (spGoneF K) := by
  have GFresh := ok_Fresh (P := P) (w := w) (base := base) T TB
  have GNext := ok_Next (P := P) (w := w) (base := base) T TB
  have GPair := ok_Pair (P := P) (w := w) (base := base) T TB
  have GBegan := ok_Began (P := P) (w := w) (base := base) T TB
  have GFormed := ok_Formed (P := P) (w := w) (base := base) T TB
  have GRefused := ok_Refused (P := P) (w := w) (base := base) T TB
  have GDone := ok_Done (P := P) (w := w) (base := base) T TB
  refine T.F_GoneF.ok scGoneF (fun vs H Q E h => ?_) (fun cdv A outer s H vs Q E hr h => ?_)
  · obtain ⟨pl, xs, l, seats, pat, rfl, hpl, it, ln, q⟩ := h
    rfl
  · obtain ⟨pl, xs, l, seats, pat, rfl, hpl, it, ln, q⟩ := h
    refine ⟨_, (pss_cons (ps_set (i := 3) scGoneF.nd rfl (Or.inl rfl) (pe_call0 GFresh (hr.mono (by decide)) (by rfl) T.g_Fresh T.F_Fresh.kp T.B_Fresh .nil pass0))
      (pss_cons (ps_for PassesOwn.never rfl (pi_range1 (by rfl) T.m_range (pa_cons (pe_callB call_len_seq (by rfl) T.m_len PySem.boot_len (pa_cons (pv 0) pa_nil)) pa_nil)) (pg_name (i := 4) scGoneF.nd rfl (Or.inl rfl))
      (pss_cons (ps_set (i := 5) scGoneF.nd rfl (Or.inl rfl) (pe_call GNext (hr.mono (by decide)) (by rfl) T.g_Next T.F_Next.kp T.B_Next .nil pass0 (pa_cons (pv 3) (pa_cons (pv 1) (pa_cons (pv 2) pa_nil)))))
      (pss_one (ps_if (pt_cmpR op_notN (pv 5) pe_non (nomark _))
      (pss_cons (ps_if (pt_cmpR (XE.op_neX hr.units) (pe_ix ix_list (pv 0) (pv 4) (fun _ _ => rfl)) (pe_op op_catT (pe_tup (pa_cons pe_str pa_nil)) (pe_call GPair (hr.mono (by decide)) (by rfl) T.g_Pair T.F_Pair.kp T.B_Pair .nil pass0 (pa_cons (pv 3) (pa_cons (pv 5) pa_nil)))) (nomark _))
      (pss_one (ps_ret (pv 4)))
      pss_nil)
      (pss_one (ps_set (i := 3) scGoneF.nd rfl (Or.inl rfl) (pe_call GBegan (hr.mono (by decide)) (by rfl) T.g_Began T.F_Began.kp T.B_Began .nil pass0 (pa_cons (pv 3) (pa_cons (pv 5) pa_nil))))))
      (pss_cons (ps_if (PW.pt (pw_or (pt_not (pt_val (pe_call GFormed hr (by rfl) T.g_Formed T.F_Formed.kp T.B_Formed .nil pass0 (pa_cons (pe_ix ix_list (pv 0) (pv 4) (fun _ _ => rfl)) pa_nil)))) (pw_or (pt_cmpR (XE.op_eqX hr.units) (pe_ix ix_tup (pe_ix ix_list (pv 0) (pv 4) (fun _ _ => rfl)) pe_int (fun _ _ => rfl)) pe_str (nomark _)) (pw_or1 (pt_val (pe_call GRefused hr (by rfl) T.g_Refused T.F_Refused.kp T.B_Refused .nil pass0 (pa_cons (pv 3) (pa_cons (pe_ix ix_list (pv 0) (pv 4) (fun _ _ => rfl)) pa_nil))))))))
      (pss_one (ps_ret (pv 4)))
      pss_nil)
      (pss_one (ps_set (i := 3) scGoneF.nd rfl (Or.inl rfl) (pe_call GDone (hr.mono (by decide)) (by rfl) T.g_Done T.F_Done.kp T.B_Done .nil pass0 (pa_cons (pv 3) (pa_cons (pe_ix ix_list (pv 0) (pv 4) (fun _ _ => rfl)) pa_nil))))))))))
      (pss_cons (ps_if (pt_cmpR op_notN (pe_call GNext (hr.mono (by decide)) (by rfl) T.g_Next T.F_Next.kp T.B_Next .nil pass0 (pa_cons (pv 3) (pa_cons (pv 1) (pa_cons (pv 2) pa_nil)))) pe_non (nomark _))
      (pss_one (ps_ret (pe_callB call_len_seq (by rfl) T.m_len PySem.boot_len (pa_cons (pv 0) pa_nil))))
      pss_nil)
      (pss_one (ps_ret pe_non))))), ?_⟩
    refine slots (start_GoneF _ _ _) ?_
    have lx := it.length
    have se : ∀ a b : Str, decide (V.str a = V.str b) = decide (a = b) := fun a b => decide_eq_decide.mpr ⟨V.str.inj, congrArg V.str⟩
    refine B_setR (R := NewNow noL H Now.none) (fun Hx Qx gx qx => ⟨noL, rfl, fun b hb => hb.elim, fun v H8 g8 ⟨p8, c1, c2, c3⟩ => qx v H8 g8 ⟨p8, c1, gx.free c2, c3⟩⟩) fun v H1 e1 ⟨pn, ev, _, hN⟩ => ?_
    subst ev
    walk_at "n"
    refine B_for1 (n := (xs.length : Int)) (g_cons (v_len (v_slot rfl) (SqL.of (e1.lst hpl))) g_nil) (by omega)
      (fun m σ' H' => ∃ (s : Now) (pn : Addr) (y4 y5 : Option V), σ' = [some (.ref pl), some (.int seats), some (.int pat), some (.ref pn), y4, y5] ∧ Gr H H' ∧ NowAt noL H' pn s ∧ s.ok ∧ s.people ≤ m ∧ gone seats pat Now.none l 0 = gone seats pat s (l.drop m) m)
      (fun H2 e2 => ⟨Now.none, pn, _, _, rfl, e1.trans e2, hN.mono e2, none_ok, Nat.le_refl _, rfl⟩) ?hs ?hd
    case hd =>
      rintro σ' H2 ⟨s, pn, y4, y5, rfl, g2, n2, o, pp, eg⟩
      rw [Int.toNat_natCast] at pp eg
      rw [lx, List.drop_length] at eg
      have og := o.good (show s.people ≤ 10000 by omega)
      cases nx : s.next seats pat with
      | some i =>
        refine B_when (b := true) (Ts.is (s_test (v_op (v_call (g_cons (v_slot rfl) (g_cons (v_slot rfl) (g_cons (v_slot rfl) g_nil))) fun Hx Qx Ex gx qx => ⟨pn, s, _, _, rfl, (n2.mono gx).any, og, qx⟩) v_con bi_notN)) (by rw [nx]; rfl)) (fun _ H3 e3 => ?_) fun z => nomatch z
        refine S_ret (v_len (v_slot rfl) (SqL.of ((g2.trans e3).lst hpl))) fun H4 e4 => ?_
        have := q H4 ((g2.trans e3).trans e4)
        rw [eg, gone_due nx] at this
        rw [lx]
        exact this
      | none =>
        refine B_when (b := false) (Ts.is (s_test (v_op (v_call (g_cons (v_slot rfl) (g_cons (v_slot rfl) (g_cons (v_slot rfl) g_nil))) fun Hx Qx Ex gx qx => ⟨pn, s, _, _, rfl, (n2.mono gx).any, og, qx⟩) v_con bi_notN)) (by rw [nx]; rfl)) (fun z => nomatch z) fun _ H3 e3 => ?_
        refine S_ret v_con fun H4 e4 => ?_
        have := q H4 ((g2.trans e3).trans e4)
        rw [eg, gone_end nx] at this
        exact this
    rintro m σ' H2 hm ⟨s, pn, y4, y5, rfl, g2, n2, o, pp, eg⟩
    have hm : m < xs.length := by omega
    have hx : xs[m]? = some xs[m] := List.getElem?_eq_getElem hm
    generalize xs[m] = v at hx
    obtain ⟨oi, hoi, ia⟩ := it.get hx
    have eo : l.drop m = oi :: l.drop (m + 1) := by
      rw [List.drop_eq_getElem_cons (by omega)]
      rw [← (List.getElem?_eq_some_iff.mp hoi).2]
    rw [eo] at eg
    have og := o.good (show s.people ≤ 10000 by omega)
    walk_at "n"
    refine B_set (v_call (g_cons (v_slot rfl) (g_cons (v_slot rfl) (g_cons (v_slot rfl) g_nil))) fun Hx Qx Ex gx qx => ⟨pn, s, _, _, rfl, (n2.mono gx).any, og, qx⟩) fun H3 e3 => ?_
    walk_at "n"
    have g3 := g2.trans e3
    have n3 := n2.mono e3
    have rk : ∀ {H' : Hp} {σ : L2.St}, Gr H H' → σ[0]? = some (some (.ref pl)) → σ[4]? = some (some (.int (m : Int))) → Vl (tOp (rIxL K) (tVar 0) (tVar 4)) σ H' v := fun g s0 s4 => v_op (v_slot s0) (v_slot s4) (bi_ixL (SqL.of (g.lst hpl)) (atI_nat hx))
    have bad : ∀ (H' : Hp), Gr H H' → gone seats pat s (oi :: l.drop (m + 1)) m = some m → Q (.int (m : Nat)) H' := fun H' g z => by
      have := q H' g
      rw [eg, z] at this
      exact this
    cases nx : s.next seats pat with
    | some i =>
      refine S_if (b := true) (Ts.is (s_test (v_op (v_slot rfl) v_con bi_notN)) rfl) (fun _ H4 e4 => ?_) fun z => nomatch z
      have g4 := g3.trans e4
      have pk := next_pok o nx
      refine B_when (b := !decide (oi = some (begRow (s.pr i)))) (s_test (v_opU (rk g4 rfl rfl) (u_catT (u_tup (g_cons v_con g_nil) (show 1 ≤ 100000 by decide)) (u_pair (ds := []) (g_cons (v_slot rfl) (g_cons (v_slot rfl) g_nil)) (n3.mono e4) (pair_of o nx)) (fun z => nomatch z) (fun z => nomatch z) (show 1 + 2 ≤ 100000 by decide)) fun t H5 ht g5 => item_ne (ia.mono (g4.trans g5)) (beg_ok pk) ht)) (fun hb H5 e5 => ?_) fun hb H5 e5 => ?_
      · have hb : ¬ oi = some (begRow (s.pr i)) := fun z => by
          rw [decide_eq_true z] at hb
          cases hb
        exact S_ret (v_slot rfl) fun H6 e6 => bad H6 ((g4.trans e5).trans e6) (by rw [gone_beg nx, if_neg hb])
      · have hb : oi = some (begRow (s.pr i)) := by
          by_cases z : oi = some (begRow (s.pr i))
          · exact z
          · rw [decide_eq_false z] at hb
            cases hb
        have g5 := g4.trans e5
        rw [gone_beg nx, if_pos hb] at eg
        refine S_setR (R := NewNow noL H5 (s.began i)) (r_call (g_cons (v_slot rfl) (g_cons (v_slot rfl) g_nil)) fun Hx Qx Ex gx qx => ⟨noL, pn, s, i, rfl, (fun b hb => hb.elim), n3.mono ((e4.trans e5).trans gx), og.1, next_place_of nx o, fun v Hy gy ⟨p, b1, b2, b3⟩ => qx v Hy gy ⟨p, b1, gx.free b2, b3⟩⟩) fun v H6 e6 ⟨pk, ev, _, hK⟩ => ?_
        subst ev
        exact ⟨s.began i, pk, _, _, rfl, g5.trans e6, hK, o.began nx, by rw [Now.began_people o nx]; omega, eg⟩
    | none =>
      refine S_if (b := false) (Ts.is (s_test (v_op (v_slot rfl) v_con bi_notN)) rfl) (fun z => nomatch z) fun _ H4 e4 => ?_
      have g4 := g3.trans e4
      cases oi with
      | none =>
        refine B_when (b := true) (s_or (b := true) (c := false) (Ts.is (s_not (s_B (v_call (g_cons (rk g4 rfl rfl) g_nil) (sv_formed (ia.mono g4).row)))) rfl) fun z => nomatch z) (fun _ H5 e5 => ?_) fun z => nomatch z
        exact S_ret (v_slot rfl) fun H6 e6 => bad H6 ((g4.trans e5).trans e6) gone_bad
      | some row =>
        obtain ⟨ok, t, rfl, ht⟩ := ia.row
        rcases ok_deed ok with ⟨n, x, rfl, hd⟩ | ⟨d, w, tl, hd, dat, dg, erow, nb⟩
        · refine B_when (b := true) (s_or (b := false) (c := true) (Ts.is (s_not (s_B (v_call (g_cons (rk g4 rfl rfl) g_nil) (sv_formed (ia.mono g4).row)))) rfl) fun _ => s_or (b := true) (c := false) (Ts.is (s_test (v_op (v_op (rk g4 rfl rfl) v_con (bi_ixT (SqT.of (g4.tup ht)) rfl)) v_con (XE.bi_eqX (bi_eqD (.str _) (.str _) (by decide +kernel) (by decide +kernel))))) (by decide +kernel)) fun z => nomatch z) (fun _ H5 e5 => ?_) fun z => nomatch z
          exact S_ret (v_slot rfl) fun H6 e6 => bad H6 ((g4.trans e5).trans e6) (gone_no nx hd)
        · have aw : Asc w := (ok.good.2.2 w (by rw [erow]; exact List.mem_cons_self)).1
          have ht' : H4 t = some (.tup (.str w :: JRow.vs tl)) := by rw [g4.tup ht, erow]; rfl
          have sw : SeqAt.shaped (.str w) = true := by unfold SeqAt.shaped; simp [PyData.canLay0, PyData.depth, aw.ok]
          refine B_when (b := s.refused d) (Ts.is (s_or (b := false) (c := s.refused d) (Ts.is (s_not (s_B (v_call (g_cons (rk g4 rfl rfl) g_nil) (sv_formed (ia.mono g4).row)))) rfl) fun _ => Ts.is (s_or (b := false) (c := s.refused d) (Ts.is (s_test (v_op (v_op (rk g4 rfl rfl) v_con (bi_ixT (SqT.of ht') (show atI _ ((0 : Nat) : Int) = _ from atI_nat rfl))) v_con (XE.bi_eqX (bi_eqD (.str _) (.str _) sw (by decide +kernel))))) ?nb) fun _ => s_B (v_call (g_cons (v_slot rfl) (g_cons (rk g4 rfl rfl) g_nil)) fun Hx Qx Ex gx qx => ⟨pn, t, s, d, row.vs, rfl, (n3.mono (e4.trans gx)).any, og.1, (g4.trans gx).tup ht, dat, qx⟩)) (Bool.false_or _)) (Bool.false_or _)) (fun rf H5 e5 => ?_) fun rf H5 e5 => ?_
          case nb =>
            cases e : PyData.eqv (.str w) (.str "begins") with
            | false => rfl
            | true => exact absurd (PyData.str.inj (eqv_str_is e)) nb
          · exact S_ret (v_slot rfl) fun H6 e6 => bad H6 ((g4.trans e5).trans e6) (by rw [gone_deed nx hd, if_pos rf])
          · have g5 := g4.trans e5
            rw [gone_deed nx hd, if_neg (by rw [rf]; exact Bool.false_ne_true)] at eg
            have pd1 : (s.done d).people ≤ s.people + 1 := (Now.done_sizes o dg rf).1
            refine S_setR (R := NewNow noL H5 (s.done d)) (r_call (g_cons (v_slot rfl) (g_cons (rk g5 rfl rfl) g_nil)) fun Hx Qx Ex gx qx => ⟨noL, pn, t, s, d, row.vs, rfl, (fun b hb => hb.elim), n3.mono ((e4.trans e5).trans gx), og.1, (g5.trans gx).tup ht, dat, dg, fun v Hy gy ⟨p, b1, b2, b3⟩ => qx v Hy gy ⟨p, b1, gx.free b2, b3⟩⟩) fun v H6 e6 ⟨pk, ev, _, hK⟩ => ?_
            subst ev
            exact ⟨s.done d, pk, _, _, rfl, g5.trans e6, hK, o.done dg rf, by omega, eg⟩

--CUT
/-! ### journals spoilt -/
def GivesI (K : PySem.W.Frag) (n : Nat) (v : V) (H : Hp) : Prop := ∃ p ys, v = .ref p ∧ H p = some (.lst ys) ∧ Items K H ys ∧ ys.length ≤ n
theorem GivesI.mono {K : PySem.W.Frag} {n : Nat} {v : V} {H H' : Hp} (g : Gr H H') (h : GivesI K n v H) : GivesI K n v H' := let ⟨p, ys, a, b, c, d⟩ := h; ⟨p, ys, a, g.lst b, c.mono g, d⟩
theorem GivesI.le {K : PySem.W.Frag} {n m : Nat} {v : V} {H : Hp} (l : n ≤ m) (h : GivesI K n v H) : GivesI K m v H := let ⟨p, ys, a, b, c, d⟩ := h; ⟨p, ys, a, b, c, Nat.le_trans d l⟩
def ThI (K : PySem.W.Frag) (v : V) (H : Hp) : Prop := ∃ o, ItemAt K H v o
theorem ThI.mono {K : PySem.W.Frag} {v : V} {H H' : Hp} (g : Gr H H') (h : ThI K v H) : ThI K v H' := let ⟨o, a⟩ := h; ⟨o, a.mono g⟩
def Its (K : PySem.W.Frag) (n : Nat) (vs : List V) (H : Hp) : Prop := vs.length = n ∧ ∀ v ∈ vs, ThI K v H
theorem Its.mono {K : PySem.W.Frag} {n : Nat} {vs : List V} {H H' : Hp} (g : Gr H H') (h : Its K n vs H) : Its K n vs H' := ⟨h.1, fun v hv => (h.2 v hv).mono g⟩
def ThDs (K : PySem.W.Frag) (n : Nat) (vs : List V) (H : Hp) : Prop := vs.length = n ∧ ∀ v ∈ vs, ThD K v H
theorem ThDs.mono {K : PySem.W.Frag} {n : Nat} {vs : List V} {H H' : Hp} (g : Gr H H') (h : ThDs K n vs H) : ThDs K n vs H' := ⟨h.1, fun v hv => (h.2 v hv).mono g⟩
def GivesIt (K : PySem.W.Frag) (n : Nat) (v : V) (H : Hp) : Prop := ∃ p ys, v = .ref p ∧ H p = some (.lst ys) ∧ Its K n ys H
theorem asc_of {z : Str} (h : (z.cps.toList.all fun k => decide (k < 128)) = true) : Asc z := fun k hk => of_decide_eq_true (List.all_eq_true.mp h k hk)
theorem atI_ex {α : Type} {xs : List α} {i : Int} (h0 : -(xs.length : Int) ≤ i) (h1 : i < xs.length) : ∃ (j : Nat) (x : α), xs[j]? = some x ∧ atI xs i = some x := by
  unfold atI ixN
  by_cases h : 0 ≤ i
  · rw [if_pos h, if_pos h1]
    exact ⟨i.toNat, xs[i.toNat]'(by omega), List.getElem?_eq_getElem (by omega), List.getElem?_eq_getElem (by omega)⟩
  · rw [if_neg h, if_pos h0]
    exact ⟨(i + xs.length).toNat, xs[(i + xs.length).toNat]'(by omega), List.getElem?_eq_getElem (by omega), List.getElem?_eq_getElem (by omega)⟩
section
variable {K : PySem.W.Frag} {σ : L2.St} {H : Hp} {t1 t2 : TE} {a1 : TA} {xs ys : List V} {n m : Nat} {x : V}
theorem r_items (h : Ls t1 σ H xs) (it : Items K H xs) (l : xs.length ≤ n) : Vr t1 σ H (GivesI K n) := fun H1 Q g q => h H1 _ g fun p H2 _ g2 e => q _ H2 g2 ⟨p, xs, rfl, e, it.mono (g.trans g2), l⟩
theorem r_catI (h1 : Vr t1 σ H (GivesI K n)) (h2 : Vr t2 σ H (GivesI K m)) (l : n + m ≤ 100000) : Vr (tOp rCat t1 t2) σ H (GivesI K (n + m)) := fun H1 Q g q => h1 H1 _ g fun v H2 g2 ⟨p, xs, ev, hp, ip, lp⟩ => h2 H2 _ (g.trans g2) fun w H3 g3 ⟨p2, ys, ew, hq, iq, lq⟩ =>
  ⟨p, p2, xs, ys, ev, ew, g3.lst hp, hq, small (by omega), fun l hl => q _ _ ((g2.trans g3).trans (.new hl)) ⟨l, _, rfl, upd_same, ((ip.mono g3).app iq).mono (.new hl), by rw [List.length_append]; omega⟩⟩
theorem r_oneV {v : V} {o : Option JRow} (h : Vl t1 σ H v) (ia : ItemAt K H v o) : Vr (tLst (tCons t1 tNil)) σ H (GivesI K 1) := r_items (l_lst (g_cons h g_nil) (show 1 ≤ 100000 by decide)) (.one ia) (Nat.le_refl _)
theorem r_oneR (h : Vr t1 σ H (ThI K)) : Vr (tLst (tCons t1 tNil)) σ H (GivesI K 1) := fun H1 Q g q => h H1 _ g fun v H2 g2 ⟨o, ia⟩ => ⟨small (show 1 ≤ 100000 by decide), fun p hp => q _ _ (g2.trans (.new hp)) ⟨p, [v], rfl, upd_same, (Items.one ia).mono (.new hp), Nat.le_refl _⟩⟩
theorem ai_nil : Ar tNil σ H (Its K 0) := fun H1 _ _ q => q [] H1 (.refl _) ⟨rfl, fun _ h => absurd h List.not_mem_nil⟩
theorem ai_cons (h : Vr t1 σ H (ThI K)) (k : Ar a1 σ H (Its K n)) : Ar (tCons t1 a1) σ H (Its K (n + 1)) := fun H1 Q g q => h H1 _ g fun v H2 g2 hv => k H2 _ (g.trans g2) fun vs H3 g3 ⟨hl, ha⟩ => q (v :: vs) H3 (g2.trans g3) ⟨by rw [List.length_cons, hl], fun u hu => by
  rcases List.mem_cons.mp hu with e | e
  · rw [e]
    exact hv.mono g3
  · exact ha u e⟩
theorem td_nil : Ar tNil σ H (ThDs K 0) := fun H1 _ _ q => q [] H1 (.refl _) ⟨rfl, fun _ h => absurd h List.not_mem_nil⟩
theorem td_cons (h : Vr t1 σ H (ThD K)) (k : Ar a1 σ H (ThDs K n)) : Ar (tCons t1 a1) σ H (ThDs K (n + 1)) := fun H1 Q g q => h H1 _ g fun v H2 g2 hv => k H2 _ (g.trans g2) fun vs H3 g3 ⟨hl, ha⟩ => q (v :: vs) H3 (g2.trans g3) ⟨by rw [List.length_cons, hl], fun u hu => by
  rcases List.mem_cons.mp hu with e | e
  · rw [e]
    exact hv.mono g3
  · exact ha u e⟩
theorem td_s {z : Str} (h : Vl t1 σ H (.str z)) (l : z.length ≤ 100000) (a : Asc z) : Vr t1 σ H (ThD K) := fun H1 Q g q => h H1 _ g fun H2 g2 => q _ H2 g2 (.str l a)
theorem td_c {z : Str} (l : z.length ≤ 100000) (a : (z.cps.toList.all fun k => decide (k < 128)) = true) : Vr (tC (.str z)) σ H (ThD K) := td_s v_con l (asc_of a)
theorem td_i {i : Int} (h : Vl t1 σ H (.int i)) : Vr t1 σ H (ThD K) := fun H1 Q g q => h H1 _ g fun H2 g2 => q _ H2 g2 .int
theorem td_n (h : Vl t1 σ H .non) : Vr t1 σ H (ThD K) := fun H1 Q g q => h H1 _ g fun H2 g2 => q _ H2 g2 .non
theorem td_l {l : List Str} (h : Ls t1 σ H (l.map V.str)) (a : ∀ z ∈ l, Asc z) : Vr t1 σ H (ThD K) := fun H1 Q g q => h H1 _ g fun p H2 _ g2 e => q _ H2 g2 (.lst e a)
theorem ti_tup (h : Ar a1 σ H (ThDs K n)) (l : n ≤ 100000) : Vr (tTup a1) σ H (ThI K) := fun H1 Q g q => h H1 _ g fun vs H2 g2 ⟨hl, ha⟩ => ⟨small (by rw [hl]; exact l), fun p hp => q _ _ (g2.trans (.new hp)) (ItemAt.tup upd_same fun x hx => (ha x hx).mono (.new hp))⟩
theorem ti_n (h : Vl t1 σ H .non) : Vr t1 σ H (ThI K) := fun H1 Q g q => h H1 _ g fun H2 g2 => q _ H2 g2 ⟨none, .non⟩
theorem ti_i {i : Int} (h : Vl t1 σ H (.int i)) : Vr t1 σ H (ThI K) := fun H1 Q g q => h H1 _ g fun H2 g2 => q _ H2 g2 ⟨none, .int⟩
theorem ti_s {z : Str} (h : Vl t1 σ H (.str z)) (a : Asc z) : Vr t1 σ H (ThI K) := fun H1 Q g q => h H1 _ g fun H2 g2 => q _ H2 g2 ⟨none, .str a⟩
theorem ti_l {l : List Str} (h : Ls t1 σ H (l.map V.str)) (a : ∀ z ∈ l, Asc z) : Vr t1 σ H (ThI K) := fun H1 Q g q => h H1 _ g fun p H2 _ g2 e => q _ H2 g2 ⟨none, .lst e a⟩
theorem ti_d : Vr tDNewK σ H (ThI K) := fun H1 Q g q => r_dnew H1 Q g fun v H2 g2 ⟨d, a, _, c⟩ => q v H2 g2 (by subst a; exact ⟨none, .dict c⟩)
theorem r_its (h : Ar a1 σ H (Its K n)) (l : n ≤ 100000) : Vr (tLst a1) σ H (GivesIt K n) := fun H1 Q g q => h H1 _ g fun vs H2 g2 hv => ⟨small (by rw [hv.1]; exact l), fun p hp => q _ _ (g2.trans (.new hp)) ⟨p, vs, rfl, upd_same, hv.mono (.new hp)⟩⟩
theorem r_catIt {p : Addr} (h1 : Vl t1 σ H (.ref p)) (hp : H p = some (.lst xs)) (ip : Its K n xs H) (h2 : Vr t2 σ H (GivesIt K m)) (l : n + m ≤ 100000) : Vr (tOp rCat t1 t2) σ H (GivesIt K (n + m)) := fun H1 Q g q => h1 H1 _ g fun H2 g2 => h2 H2 _ (g.trans g2) fun w H3 g3 ⟨p2, ys, ew, hq, iq⟩ =>
  ⟨p, p2, xs, ys, rfl, ew, ((g.trans g2).trans g3).lst hp, hq, small (by rw [ip.1, iq.1]; exact l), fun l hl => q _ _ ((g2.trans g3).trans (.new hl)) ⟨l, _, rfl, upd_same, by rw [List.length_append, ip.1, iq.1], fun u hu => (List.mem_append.mp hu).elim (fun z => (ip.2 u z).mono (((g.trans g2).trans g3).trans (.new hl))) fun z => (iq.2 u z).mono (.new hl)⟩⟩
theorem u_slT {tl th : TO} {a : Addr} {lo hi : Option Int} (h : Vl t1 σ H (.ref a)) (h1 : Pt tl σ H lo) (h2 : Pt th σ H hi) (s : H a = some (.tup xs)) (nw : ¬ (HT.sIx xs.length 0 lo = 0 ∧ HT.sIx xs.length xs.length hi = xs.length)) : Tu (tSl (rSlT K) t1 tl th) σ H (cutV xs lo hi) := fun H1 _ g q =>
  h H1 _ g fun H2 g2 => h1 H2 _ (g.trans g2) fun H3 g3 => h2 H3 _ ((g.trans g2).trans g3) fun H4 g4 => ⟨a, xs, rfl, SqT.of ((((g.trans g2).trans g3).trans g4).tup s), nw, fun p hp => q p _ (((g2.trans g3).trans g4).free hp) (((g2.trans g3).trans g4).trans (.new hp)) upd_same⟩
theorem r_catT (a : Tu t1 σ H xs) (b : Tu t2 σ H ys) (n1 : xs ≠ []) (n : xs.length + ys.length ≤ 100000) : Vr (tOp (rCatT K) t1 t2) σ H (fun v H1 => ∃ p, v = .ref p ∧ H1 p = some (.tup (xs ++ ys))) := fun H1 Q g r => a H1 _ g fun p H2 hp g2 e2 => b H2 _ (g.trans g2) fun q H3 hq g3 e3 =>
  ⟨p, q, xs, ys, rfl, rfl, SqT.of (g3.tup e2), SqT.of e3, n1, small n, fun z => r _ _ (g2.trans g3) ⟨p, rfl, by rw [z, List.append_nil]; exact g3.tup e2⟩, fun _ l hl => r _ _ ((g2.trans g3).trans (.new hl)) ⟨l, rfl, upd_same⟩⟩
theorem Vr.toThI {v : V} (h : Vl t1 σ H v) (k : ThI K v H) : Vr t1 σ H (ThI K) := fun H1 Q g q => h H1 _ g fun H2 g2 => q v H2 g2 (k.mono (g.trans g2))
end
theorem row_two {row : JRow} (ok : row.ok) : ∃ w n tl, row = w :: n :: tl ∧ Asc w ∧ Asc n ∧ w.length ≤ 100 ∧ n.length ≤ 100 ∧ nameB n = true ∧ (tl = [] ∨ ∃ x, tl = [x] ∧ (x = rd ∨ x = wr)) := by
  have g := ok.good
  obtain ⟨w, n, hn, ⟨_, x, hx, rfl⟩ | ⟨_, rfl⟩⟩ := ok
  · exact ⟨w, n, [x], rfl, (g.2.2 w (by simp)).1, (g.2.2 n (by simp)).1, (g.2.2 w (by simp)).2, (g.2.2 n (by simp)).2, hn, .inr ⟨x, rfl, hx⟩⟩
  · exact ⟨w, n, [], rfl, (g.2.2 w (by simp)).1, (g.2.2 n (by simp)).1, (g.2.2 w (by simp)).2, (g.2.2 n (by simp)).2, hn, .inl rfl⟩
def spOtherRow (K : PySem.W.Frag) : Sp := fun vs H Q _ => ∃ (p p2 : Addr) (way c : Int) (row row2 : JRow), vs = [.ref p, .int way, .int c, .ref p2] ∧ H p = some (.tup row.vs) ∧ row.ok ∧ H p2 = some (.tup row2.vs) ∧ row2.ok ∧ RR_ (ThI K) H Q
theorem ok_OtherRow (T : Top K mg) (TB : Tabs T base) : FnOk P w K mg base CX0 1 T.f_OtherRow T.fd_OtherRow ["_law_row_here", "_law_way", "_law_cell", "_law_ahead"] (spOtherRow K) := by
  refine T.F_OtherRow.ok scOtherRow (fun vs H Q E h => ?_) (fun cdv A outer s H vs Q E hr h => ?_)
  · obtain ⟨p, p2, way, c, row, row2, rfl, hp, ok, hp2, ok2, q⟩ := h
    rfl
  · obtain ⟨p, p2, way, c, row, row2, rfl, hp, ok, hp2, ok2, q⟩ := h
    refine ⟨_, (pss_cons (ps_if (pt_cmpR op_eq (pv 1) pe_int (nomark _))
      (pss_one (ps_ret (pe_op op_catT (pe_tup (pa_cons (pe_ix ix_tup (pv 0) pe_int (fun _ _ => rfl)) (pa_cons (pe_ix ix_list (pe_lst (pa_cons pe_str (pa_cons pe_str (pa_cons pe_str (pa_cons (pe_op op_add_str (pe_slice sl_str (pe_ix ix_tup (pv 0) pe_int (fun _ _ => rfl)) (po_some pe_int) po_none) pe_str) (pa_cons pe_str (pa_cons pe_str pa_nil))))))) (pe_op op_modN (pv 2) pe_int) (fun _ _ => rfl)) pa_nil))) (pe_slice sl_tup (pv 0) (po_some pe_int) po_none))))
      pss_nil)
      (pss_cons (ps_if (PW.pt (pw_and (pt_cmpR op_eq (pv 1) pe_int (nomark _)) (pw_and1 (pt_cmpR op_eq (pe_callB call_len_seq (by rfl) T.m_len PySem.boot_len (pa_cons (pv 0) pa_nil)) pe_int (nomark _)))))
      (pss_one (ps_ret (pe_tup (pa_cons (pe_ix ix_tup (pv 0) pe_int (fun _ _ => rfl)) (pa_cons (pe_ix ix_tup (pv 0) pe_int (fun _ _ => rfl)) (pa_cons (pe_ix ix_list (pe_lst (pa_cons pe_str (pa_cons pe_str pa_nil))) (pe_callTy call_int1 (by rfl) T.m_int (by decide +kernel) (pa_cons (pe_cmpR op_eq (pe_ix ix_tup (pv 0) pe_int (fun _ _ => rfl)) pe_str (nomark _)) pa_nil)) (fun _ _ => rfl)) pa_nil))))))
      pss_nil)
      (pss_cons (ps_set (i := 4) scOtherRow.nd rfl (Or.inl rfl) (pe_ix ix_tup (pv 0) pe_int (fun _ _ => rfl)))
      (pss_cons (ps_if (pt_cmpR op_eq (pe_op op_modN (pe_op op_fdivN (pv 2) pe_int) pe_int) pe_int (nomark _))
      (pss_one (ps_set (i := 4) scOtherRow.nd rfl (Or.inl rfl) (pe_ix ix_tup (pv 3) pe_int (fun _ _ => rfl))))
      pss_nil)
      (pss_cons (ps_set (i := 5) scOtherRow.nd rfl (Or.inl rfl) (pe_lst (pa_cons pe_non (pa_cons pe_int (pa_cons (pe_op op_add_str pe_str (pv 4)) (pa_cons (pe_lst (pa_cons pe_str (pa_cons (pv 4) pa_nil))) (pa_cons (pe_tup (pa_cons pe_str pa_nil)) (pa_cons (pe_tup (pa_cons pe_str (pa_cons (pv 4) (pa_cons pe_str pa_nil)))) (pa_cons (pe_tup (pa_cons pe_str (pa_cons (pv 4) pa_nil))) pa_nil)))))))))
      (pss_cons (ps_set (i := 5) scOtherRow.nd rfl (Or.inl rfl) (pe_op op_cat (pv 5) (pe_lst (pa_cons (pe_tup (pa_cons pe_str (pa_cons (pv 4) (pa_cons pe_str pa_nil)))) (pa_cons (pe_tup (pa_cons pe_str (pa_cons pe_int (pa_cons pe_str pa_nil)))) (pa_cons (pe_tup (pa_cons pe_str (pa_cons (pv 4) (pa_cons pe_str pa_nil)))) (pa_cons (pe_tup (pa_cons pe_str (pa_cons pe_non pa_nil))) (pa_cons (pe_tup pa_nil) pa_nil))))))))
      (pss_cons (ps_set (i := 5) scOtherRow.nd rfl (Or.inl rfl) (pe_op op_cat (pv 5) (pe_lst (pa_cons (pe_tup (pa_cons pe_str (pa_cons (pv 4) (pa_cons pe_str (pa_cons pe_str pa_nil))))) (pa_cons (pe_tup (pa_cons pe_str (pa_cons (pv 4) pa_nil))) (pa_cons (pe_tup (pa_cons pe_str (pa_cons (pv 4) pa_nil))) (pa_cons (pe_tup (pa_cons pe_str (pa_cons (pv 4) pa_nil))) (pa_cons (pe_tup (pa_cons pe_str (pa_cons (pv 4) pa_nil))) pa_nil))))))))
      (pss_cons (ps_set (i := 5) scOtherRow.nd rfl (Or.inl rfl) (pe_op op_cat (pv 5) (pe_lst (pa_cons (pe_tup (pa_cons pe_str (pa_cons (pv 4) pa_nil))) (pa_cons (pe_tup (pa_cons pe_int (pa_cons (pv 4) pa_nil))) (pa_cons (pe_tup (pa_cons pe_str (pa_cons (pe_lst (pa_cons (pv 4) pa_nil)) pa_nil))) (pa_cons (pe_tup (pa_cons pe_str (pa_cons (pv 4) (pa_cons pe_non pa_nil)))) (pa_cons (pe_tup (pa_cons pe_str (pa_cons (pe_lst (pa_cons (pv 4) pa_nil)) (pa_cons pe_str pa_nil)))) pa_nil))))))))
      (pss_cons (ps_set (i := 5) scOtherRow.nd rfl (Or.inl rfl) (pe_op op_cat (pv 5) (pe_lst (pa_cons (pe_tup (pa_cons pe_str (pa_cons (pv 4) pa_nil))) (pa_cons (pe_tup (pa_cons pe_str (pa_cons (pv 4) pa_nil))) (pa_cons (pe_tup (pa_cons pe_str (pa_cons (pv 4) pa_nil))) (pa_cons (pe_tup (pa_cons pe_str (pa_cons (pv 4) pa_nil))) (pa_cons (pe_tup (pa_cons pe_str (pa_cons (pv 4) (pa_cons pe_str pa_nil)))) (pa_cons pe_dnewK pa_nil)))))))))
      (pss_cons (ps_set (i := 5) scOtherRow.nd rfl (Or.inl rfl) (pe_op op_cat (pv 5) (pe_lst (pa_cons (pe_tup (pa_cons pe_str (pa_cons (pv 4) (pa_cons pe_str pa_nil)))) (pa_cons (pe_tup (pa_cons pe_str (pa_cons (pv 4) pa_nil))) pa_nil)))))
      (pss_one (ps_ret (pe_ix ix_list (pv 5) (pe_op op_modN (pv 2) pe_int) (fun _ _ => rfl)))))))))))))), ?_⟩
    refine slots (start_OtherRow _ _ _ _) ?_
    obtain ⟨w, n, tl, rfl, aw, an, lw, ln, nn, htl⟩ := row_two ok
    obtain ⟨w2, n2, tl2, rfl, _, an2, _, ln2, _, _⟩ := row_two ok2
    have se : ∀ a b : Str, decide (V.str a = V.str b) = decide (a = b) := fun a b => decide_eq_decide.mpr ⟨V.str.inj, congrArg V.str⟩
    have lrow : (JRow.vs (w :: n :: tl)).length = 2 + tl.length := by unfold JRow.vs; rw [List.length_map, List.length_cons, List.length_cons]; omega
    have f : ∀ {H1 : Hp} {σ : L2.St} {i : Nat} {u : V}, Gr H H1 → σ[0]? = some (some (.ref p)) → (JRow.vs (w :: n :: tl))[i]? = some u → Vl (tOp (rIxT K) (tVar 0) (tC (.int (i : Nat)))) σ H1 u := fun g s0 h => v_op (v_slot s0) v_con (bi_ixT (SqT.of (g.tup hp)) (atI_nat h))
    refine B_when (s_test (v_op (v_slot rfl) v_con (bi_eq rfl))) (fun _ H1 e1 => ?_) fun _ H1 e1 => ?_
    · have b6 := fmod_in c (m := 6) (by decide)
      let S : List Str := ["a", "b", "zz9", cutS n (some 1) none ++ "x", "A", ""]
      have lc := cut_len n (some 1) none
      have aS : ∀ z ∈ S, Asc z ∧ z.length ≤ 1000 := fun z hz => by
        simp only [S, List.mem_cons, List.not_mem_nil, or_false] at hz
        rcases hz with rfl | rfl | rfl | rfl | rfl | rfl
        · exact ⟨asc_of (by decide +kernel), by decide +kernel⟩
        · exact ⟨asc_of (by decide +kernel), by decide +kernel⟩
        · exact ⟨asc_of (by decide +kernel), by decide +kernel⟩
        · refine ⟨(an.cut _ _).cat (asc_of (by decide +kernel)), ?_⟩
          rw [cat_len, show ("x" : Str).length = 1 by decide +kernel]
          omega
        · exact ⟨asc_of (by decide +kernel), by decide +kernel⟩
        · exact ⟨asc_of (by decide +kernel), by decide +kernel⟩
      obtain ⟨j, u, hu, au⟩ := atI_ex (xs := S.map V.str) (i := c.fmod 6) (by show -(6 : Int) ≤ _; omega) (by show _ < (6 : Int); omega)
      obtain ⟨z, hz, rfl⟩ : ∃ z, z ∈ S ∧ V.str z = u := List.mem_map.mp (List.mem_of_getElem? hu)
      obtain ⟨az, lz⟩ := aS z hz
      have six : Ls (tLst (tCons (tC (.str "a")) (tCons (tC (.str "b")) (tCons (tC (.str "zz9")) (tCons (tOp (fun x y H Q => ∃ i j, x = .str i ∧ y = .str j ∧ i.length + j.length ≤ sizeLine ∧ Q (.str (i ++ j)) H) (tSl rSlS (tOp (rIxT K) (tVar 0) (tC (.int 1))) (tPart (tC (.int 1))) tNoPart) (tC (.str "x"))) (tCons (tC (.str "A")) (tCons (tC (.str "")) tNil))))))) [some (.ref p), some (.int way), some (.int c), some (.ref p2), none, none] H1 (S.map V.str) := l_lst (g_cons v_con (g_cons v_con (g_cons v_con (g_cons (v_op (v_slS (f (i := 1) e1 rfl rfl) (p_int v_con) p_no (by omega)) v_con (bi_cat (by rw [show ("x" : Str).length = 1 by decide +kernel]; omega))) (g_cons v_con (g_cons v_con g_nil)))))) (show 6 ≤ 100000 by decide)
      refine S_retR (Vr.weak (r_catT (xs := [.str w, .str z]) (ys := cutV (JRow.vs (w :: n :: tl)) (some 2) none) (u_tup (g_cons (f (i := 0) e1 rfl rfl) (g_cons (v_opL six (fun _ _ => v_op (v_slot rfl) v_con (bi_C (show (6 : Int) ≠ 0 by decide))) fun pp H2 hpp _ => bi_ixL (SqL.of hpp) au) g_nil)) (show 2 ≤ 100000 by decide)) (u_slT (v_slot rfl) (p_int v_con) p_no (e1.tup hp) ?nw) (fun z => nomatch z) ?len) fun v H2 ⟨t, ev, ht⟩ => ?item) fun v H2 e2 h => q v H2 (e1.trans e2) h
      case nw =>
        rw [show HT.sIx (JRow.vs (w :: n :: tl)).length 0 (some 2) = min 2 (JRow.vs (w :: n :: tl)).length from HT.sIx_nat _ 0 2]
        omega
      case len =>
        have := cutV_len (JRow.vs (w :: n :: tl)) (some 2) none
        rcases htl with rfl | ⟨x, rfl, _⟩ <;> (simp at lrow ⊢; omega)
      case item =>
        subst ev
        refine ItemAt.tup ht fun x hx => ?_
        rcases List.mem_append.mp hx with hx | hx
        · simp only [List.mem_cons, List.not_mem_nil, or_false] at hx
          rcases hx with rfl | rfl
          · exact .str (by omega) aw
          · exact .str (by omega) az
        · obtain ⟨s, hs, rfl⟩ := List.mem_map.mp (cutV_mem hx)
          exact .str (Nat.le_trans (ok.good.2.2 s hs).2 (by decide)) (ok.good.2.2 s hs).1
    refine B_when (s_and (s_test (v_op (v_slot rfl) v_con (bi_eq rfl))) fun _ => s_test (v_op (v_lenT (v_slot rfl) (SqT.of (e1.tup hp))) v_con (bi_eq rfl))) (fun hb H2 e2 => ?_) fun _ H2 e2 => ?_
    · have g2 := e1.trans e2
      rw [Bool.and_eq_true, lrow] at hb
      have l3 := V.int.inj (of_decide_eq_true hb.2)
      obtain ⟨x, rfl, hx⟩ : ∃ x, tl = [x] ∧ (x = rd ∨ x = wr) := by
        rcases htl with rfl | h
        · exact absurd l3 (by decide)
        · exact h
      refine S_retR (Vr.weak (Tu.toR (u_tup (vs := [.str w, .str n, .str (if x = rd then wr else rd)]) (g_cons (f (i := 0) g2 rfl rfl) (g_cons (f (i := 1) g2 rfl rfl) (g_cons (v_opL (l_lst (g_cons v_con (g_cons v_con g_nil)) (show 2 ≤ 100000 by decide)) (fun H3 g3 => v_intB (Vl.is (v_op (f (i := 2) (g2.trans g3) rfl rfl) v_con (bi_eq rfl)) (congrArg V.bl (se _ _)))) fun pp H3 hpp _ => bi_ixL (SqL.of hpp) ?ix) g_nil))) (show 3 ≤ 100000 by decide))) fun v H3 ⟨t, ev, ht⟩ => ?it2) fun v H3 e3 h => q v H3 (g2.trans e3) h
      case ix =>
        rcases hx with rfl | rfl
        · rw [if_pos (decide_eq_true rfl), if_pos rfl]
          rfl
        · rw [if_neg (by rw [decide_eq_false wrNe]; exact Bool.false_ne_true), if_neg wrNe]
          rfl
      case it2 =>
        subst ev
        refine ItemAt.tup ht fun y hy => ?_
        simp only [List.mem_cons, List.not_mem_nil, or_false] at hy
        rcases hy with rfl | rfl | rfl
        · exact .str (by omega) aw
        · exact .str (by omega) an
        · split
          · exact .str (by decide +kernel) (asc_of (by decide +kernel))
          · exact .str (by decide +kernel) (asc_of (by decide +kernel))
    have g2 := e1.trans e2
    refine B_set (f (i := 1) g2 rfl rfl) fun H3 e3 => ?_
    walk_at "n"
    have g3 := g2.trans e3
    refine B_whenSet (b := decide ((c.fdiv 30).fmod 2 = 0)) (y := .str n) (v := .str (if (c.fdiv 30).fmod 2 = 0 then n2 else n)) (Ts.is (s_test (v_op (v_op (v_op (v_slot rfl) v_con (bi_C (show CDivN c 30 from ⟨by decide, by decide⟩))) v_con (bi_C (show (2 : Int) ≠ 0 by decide))) v_con (bi_eq rfl))) (decide_eq_decide.mpr ⟨V.int.inj, congrArg V.int⟩)) rfl (fun hb => Vl.is (v_op (v_slot rfl) v_con (bi_ixT (SqT.of (g3.tup hp2)) (show atI _ ((1 : Nat) : Int) = _ from atI_nat rfl))) (by rw [if_pos (of_decide_eq_true hb)])) (fun hb => by rw [if_neg (of_decide_eq_false hb)]) fun H4 e4 => ?_
    walk_at "n"
    have g4 := g3.trans e4
    have aN : Asc (if (c.fdiv 30).fmod 2 = 0 then n2 else n) ∧ (if (c.fdiv 30).fmod 2 = 0 then n2 else n).length ≤ 100 := by
      split
      · exact ⟨an2, ln2⟩
      · exact ⟨an, ln⟩
    generalize (if (c.fdiv 30).fmod 2 = 0 then n2 else n) = who at aN ⊢
    obtain ⟨aN, lN⟩ := aN
    have k3 : (3 : Nat) ≤ 100000 := by decide
    have k2 : (2 : Nat) ≤ 100000 := by decide
    have k1 : (1 : Nat) ≤ 100000 := by decide
    have lw5 : ("left " : Str).length = 5 := by decide +kernel
    have tw : ∀ {H' : Hp} {σ : L2.St}, σ[4]? = some (some (.str who)) → Vr (tVar 4) σ H' (ThD K) := fun s4 => td_s (v_slot s4) (by omega) aN
    have tL : ∀ {H' : Hp} {σ : L2.St}, σ[4]? = some (some (.str who)) → Ls (tLst (tCons (tVar 4) tNil)) σ H' ([who].map V.str) := fun s4 => l_lst (g_cons (v_slot s4) g_nil) k1
    have aL : ∀ z ∈ [who], Asc z := fun z hz => by rw [List.mem_singleton.mp hz]; exact aN
    refine B_setR (r_its (K := K) (ai_cons (ti_n v_con) (ai_cons (ti_i v_con) (ai_cons (ti_s (v_op v_con (v_slot rfl) (bi_cat (by omega))) ((asc_of (by decide +kernel)).cat aN)) (ai_cons (ti_l (l := ["left", who]) (l_lst (g_cons v_con (g_cons (v_slot rfl) g_nil)) k2) (fun z hz => ?al)) (ai_cons (ti_tup (td_cons (td_c (by decide +kernel) (by decide +kernel)) td_nil) k1) (ai_cons (ti_tup (td_cons (td_c (by decide +kernel) (by decide +kernel)) (td_cons (tw rfl) (td_cons (td_c (by decide +kernel) (by decide +kernel)) td_nil))) k3) (ai_cons (ti_tup (td_cons (td_c (by decide +kernel) (by decide +kernel)) (td_cons (tw rfl) td_nil)) k2) ai_nil))))))) (show 7 ≤ 100000 by decide)) fun v H5 e5 ⟨q5, y5, ev, h5, i5⟩ => ?_
    case al =>
      simp only [List.mem_cons, List.not_mem_nil, or_false] at hz
      rcases hz with rfl | rfl
      · exact asc_of (by decide +kernel)
      · exact aN
    subst ev
    walk_at "n"
    have c2 : ∀ {H' : Hp} {σ : L2.St} {z : Str}, σ[4]? = some (some (.str who)) → z.length ≤ 100000 → (z.cps.toList.all fun k => decide (k < 128)) = true → Vr (tTup (tCons (tC (.str z)) (tCons (tVar 4) tNil))) σ H' (ThI K) := fun s4 l a => ti_tup (td_cons (td_c l a) (td_cons (tw s4) td_nil)) k2
    have c3 : ∀ {H' : Hp} {σ : L2.St} {z x : Str}, σ[4]? = some (some (.str who)) → z.length ≤ 100000 → (z.cps.toList.all fun k => decide (k < 128)) = true → x.length ≤ 100000 → (x.cps.toList.all fun k => decide (k < 128)) = true → Vr (tTup (tCons (tC (.str z)) (tCons (tVar 4) (tCons (tC (.str x)) tNil)))) σ H' (ThI K) := fun s4 l a l2 a2 => ti_tup (td_cons (td_c l a) (td_cons (tw s4) (td_cons (td_c l2 a2) td_nil))) k3
    refine B_setR (r_catIt (v_slot rfl) h5 i5 (r_its (K := K) (ai_cons (c3 rfl (by decide +kernel) (by decide +kernel) (by decide +kernel) (by decide +kernel)) (ai_cons (ti_tup (td_cons (td_c (by decide +kernel) (by decide +kernel)) (td_cons (td_i v_con) (td_cons (td_c (by decide +kernel) (by decide +kernel)) td_nil))) k3) (ai_cons (c3 rfl (by decide +kernel) (by decide +kernel) (by decide +kernel) (by decide +kernel)) (ai_cons (ti_tup (td_cons (td_c (by decide +kernel) (by decide +kernel)) (td_cons (td_n v_con) td_nil)) k2) (ai_cons (ti_tup td_nil (show 0 ≤ 100000 by decide)) ai_nil))))) (show 5 ≤ 100000 by decide)) (show 7 + 5 ≤ 100000 by decide)) fun v H6 e6 ⟨q6, y6, ev, h6, i6⟩ => ?_
    subst ev
    walk_at "n"
    refine B_setR (r_catIt (v_slot rfl) h6 i6 (r_its (K := K) (ai_cons (ti_tup (td_cons (td_c (by decide +kernel) (by decide +kernel)) (td_cons (tw rfl) (td_cons (td_c (by decide +kernel) (by decide +kernel)) (td_cons (td_c (by decide +kernel) (by decide +kernel)) td_nil)))) (show 4 ≤ 100000 by decide)) (ai_cons (c2 rfl (by decide +kernel) (by decide +kernel)) (ai_cons (c2 rfl (by decide +kernel) (by decide +kernel)) (ai_cons (c2 rfl (by decide +kernel) (by decide +kernel)) (ai_cons (c2 rfl (by decide +kernel) (by decide +kernel)) ai_nil))))) (show 5 ≤ 100000 by decide)) (show 7 + 5 + 5 ≤ 100000 by decide)) fun v H7 e7 ⟨q7, y7, ev, h7, i7⟩ => ?_
    subst ev
    walk_at "n"
    refine B_setR (r_catIt (v_slot rfl) h7 i7 (r_its (K := K) (ai_cons (c2 rfl (by decide +kernel) (by decide +kernel)) (ai_cons (ti_tup (td_cons (td_i v_con) (td_cons (tw rfl) td_nil)) k2) (ai_cons (ti_tup (td_cons (td_c (by decide +kernel) (by decide +kernel)) (td_cons (td_l (tL rfl) aL) td_nil)) k2) (ai_cons (ti_tup (td_cons (td_c (by decide +kernel) (by decide +kernel)) (td_cons (tw rfl) (td_cons (td_n v_con) td_nil))) k3) (ai_cons (ti_tup (td_cons (td_c (by decide +kernel) (by decide +kernel)) (td_cons (td_l (tL rfl) aL) (td_cons (td_c (by decide +kernel) (by decide +kernel)) td_nil))) k3) ai_nil))))) (show 5 ≤ 100000 by decide)) (show 7 + 5 + 5 + 5 ≤ 100000 by decide)) fun v H8 e8 ⟨q8, y8, ev, h8, i8⟩ => ?_
    subst ev
    walk_at "n"
    refine B_setR (r_catIt (v_slot rfl) h8 i8 (r_its (K := K) (ai_cons (c2 rfl (by decide +kernel) (by decide +kernel)) (ai_cons (c2 rfl (by decide +kernel) (by decide +kernel)) (ai_cons (c2 rfl (by decide +kernel) (by decide +kernel)) (ai_cons (c2 rfl (by decide +kernel) (by decide +kernel)) (ai_cons (c3 rfl (by decide +kernel) (by decide +kernel) (by decide +kernel) (by decide +kernel)) (ai_cons ti_d ai_nil)))))) (show 6 ≤ 100000 by decide)) (show 7 + 5 + 5 + 5 + 6 ≤ 100000 by decide)) fun v H9 e9 ⟨q9, y9, ev, h9, i9⟩ => ?_
    subst ev
    walk_at "n"
    refine B_setR (r_catIt (v_slot rfl) h9 i9 (r_its (K := K) (ai_cons (c3 rfl (by decide +kernel) (by decide +kernel) (by decide +kernel) (by decide +kernel)) (ai_cons (c2 rfl (by decide +kernel) (by decide +kernel)) ai_nil)) (show 2 ≤ 100000 by decide)) (show 7 + 5 + 5 + 5 + 6 + 2 ≤ 100000 by decide)) fun v H10 e10 ⟨q10, y10, ev, h10, i10⟩ => ?_
    subst ev
    walk_at "n"
    have b30 := fmod_in c (m := 30) (by decide)
    have l30 : (y10.length : Int) = 30 := by rw [i10.1]; rfl
    obtain ⟨j, u, hu, au⟩ := atI_ex (xs := y10) (i := c.fmod 30) (by omega) (by omega)
    have gg := (((g4.trans e5).trans (e6.trans e7)).trans (e8.trans e9)).trans e10
    exact S_ret (v_op (v_slot rfl) (v_op (v_slot rfl) v_con (bi_C (show (30 : Int) ≠ 0 by decide))) (bi_ixL (SqL.of h10) au)) fun H11 e11 => q u H11 (gg.trans e11) ((i10.2 u (List.mem_of_getElem? hu)).mono e11)

--CUT
section
variable {K : PySem.W.Frag} {σ : L2.St} {H : Hp} {t1 t2 : TE} {a1 : TA} {α : Type} {f : α → List V}
/-- a new list of new tuples -/
theorem tz_nil : Ar tNil σ H (fun vs H1 => TupsAt H1 f vs []) := fun H1 _ _ q => q [] H1 (.refl _) .nil
theorem tz_cons {e : α} {l : List α} (h : Tu t1 σ H (f e)) (k : Ar a1 σ H (fun vs H1 => TupsAt H1 f vs l)) : Ar (tCons t1 a1) σ H (fun vs H1 => TupsAt H1 f vs (e :: l)) := fun H1 Q g q => h H1 _ g fun p H2 _ g2 hp => k H2 _ (g.trans g2) fun vs H3 g3 t => q _ H3 (g2.trans g3) (.cons (g3.tup hp) t)
theorem r_tupsZ {l : List α} (h : Ar a1 σ H (fun vs H1 => TupsAt H1 f vs l)) (n : l.length ≤ 100000) : Vr (tLst a1) σ H (fun v H1 => ∃ p ys, v = .ref p ∧ H p = none ∧ H1 p = some (.lst ys) ∧ TupsAt H1 f ys l) := fun H1 Q g q => h H1 _ g fun vs H2 g2 t =>
  ⟨small (by rw [t.length]; exact n), fun p hp => q _ _ (g2.trans (.new hp)) ⟨p, vs, rfl, (g.trans g2).free hp, upd_same, t.mono (.new hp)⟩⟩
end
theorem TupsAt.ix {α : Type} {f : α → List V} {H : Hp} {ys : List V} {l : List α} {i : Int} (t : TupsAt H f ys l) (h0 : -(l.length : Int) ≤ i) (h1 : i < l.length) : ∃ (p : Addr) (a : α), a ∈ l ∧ atI ys i = some (.ref p) ∧ H p = some (.tup (f a)) := by
  have lt := t.length
  obtain ⟨j, x, hx, ax⟩ := atI_ex (xs := ys) (i := i) (by omega) (by omega)
  have hj : j < l.length := by
    have := (List.getElem?_eq_some_iff.mp hx).1
    omega
  obtain ⟨p, hp, ht⟩ := t.get j (List.getElem?_eq_getElem hj)
  rw [hx] at hp
  obtain rfl := Option.some.inj hp
  exact ⟨p, l[j], List.getElem_mem hj, ax, ht⟩
theorem Items.ofRows {K : PySem.W.Frag} {H : Hp} {ys : List V} {rows : List JRow} (t : TupsAt H JRow.vs ys rows) (ok : ∀ x ∈ rows, x.ok) : Items K H ys := ⟨_, .of t ok⟩
def spMisspelt (K : PySem.W.Frag) : Sp := fun vs H Q _ => ∃ (p : Addr) (c : Int) (ys : List V) (rows : List JRow), vs = [.ref p, .int c] ∧ H p = some (.lst ys) ∧ TupsAt H JRow.vs ys rows ∧ (∀ x ∈ rows, x.ok) ∧ rows.length ≤ 800 ∧ RR_ (GivesI K 1700) H Q
def spSpoilt (K : PySem.W.Frag) : Sp := fun vs H Q _ => ∃ (p : Addr) (c m : Int) (ys : List V) (rows : List JRow), vs = [.ref p, .int c, .int m] ∧ H p = some (.lst ys) ∧ TupsAt H JRow.vs ys rows ∧ (∀ x ∈ rows, x.ok) ∧ rows.length ≤ 800 ∧ RR_ (GivesI K 3400) H Q
theorem beg_row {r : JRow} (ok : r.ok) (h : r.headD "" = "begins") : ∃ n x, r = (["begins", n, x] : JRow) := by
  obtain ⟨w, n, hn, ⟨hw, x, hx, rfl⟩ | ⟨hw, rfl⟩⟩ := ok
  · have h : w = "begins" := h
    rw [h]
    exact ⟨n, x, rfl⟩
  · have h : w = "begins" := h
    rw [h] at hw
    exact absurd hw (by decide +kernel)
theorem ok_cons {r : JRow} (ok : r.ok) : ∃ w n tl, r = w :: n :: tl ∧ r.headD "" = w := by
  obtain ⟨w, n, tl, rfl, _⟩ := row_two ok
  exact ⟨w, n, tl, rfl, rfl⟩
def nV (m : Nat) : V := .int (m : Int)
theorem ok_Misspelt (T : Top K mg) (TB : Tabs T base) : FnOk P w K mg base CX0 1 T.f_Misspelt T.fd_Misspelt ["_law_rows", "_law_more"] (spMisspelt K) := by
  refine T.F_Misspelt.ok scMisspelt (fun vs H Q E h => ?_) (fun cdv A outer s H vs Q E hr h => ?_)
  · obtain ⟨p, c, ys, rows, rfl, hp, tr, ok, ln, q⟩ := h
    rfl
  · obtain ⟨p, c, ys, rows, rfl, hp, tr, ok, ln, q⟩ := h
    refine ⟨_, (pss_cons (ps_setLc (i := 2) (own := [("_law_k", 6)]) rfl scMisspelt.nd rfl rfl (sw_true rfl rfl rfl (by decide +kernel)) (pi_range1 (by rfl) T.m_range (pa_cons (pe_callB call_len_seq (by rfl) T.m_len PySem.boot_len (pa_cons (pv 0) pa_nil)) pa_nil)) (blkOk_by (own := [("_law_k", 6)]) (N := nmMisspelt) (sc := defScope sMisspelt) (by decide +kernel)) (fun _ _ _ _ _ => (pg_name (i := 6) scMisspelt.nd rfl (Or.inl rfl))) (fun _ _ _ _ _ => (pts_one (pt_cmpR op_eq (pe_ix (r := rIxT K) ix_tup (pe_ix (r := rIxL K) ix_list (pv 0) (pv 6) (fun _ _ => rfl)) pe_int (fun _ _ => rfl)) pe_str (nomark _)))) (fun _ _ _ _ _ => (pv 6)))
      (pss_cons (ps_if (pt_cmpR (XE.op_eqX hr.units) (pv 2) (pe_lst pa_nil) (nomark _))
      (pss_one (ps_ret (pv 0)))
      pss_nil)
      (pss_cons (ps_setLc (i := 3) (own := [("_law_k", 6)]) rfl scMisspelt.nd rfl rfl (sw_true rfl rfl rfl (by decide +kernel)) (pi_list (pv 2)) (blkOk_by (own := [("_law_k", 6)]) (N := nmMisspelt) (sc := defScope sMisspelt) (by decide +kernel)) (fun _ _ _ _ _ => (pg_name (i := 6) scMisspelt.nd rfl (Or.inl rfl))) (fun _ _ _ _ _ => (pts_one (pt_cmpR op_eq (pe_ix (r := rIxT K) ix_tup (pe_ix (r := rIxL K) ix_list (pv 0) (pv 6) (fun _ _ => rfl)) pe_int (fun _ _ => rfl)) pe_str (nomark _)))) (fun _ _ _ _ _ => (pv 6)))
      (pss_cons (ps_if (PW.pt (pw_and (pt_cmpR (XE.op_neX hr.units) (pv 3) (pe_lst pa_nil) (nomark _)) (pw_and1 (pt_cmpR op_ne (pe_op op_modN (pv 1) pe_int) pe_int (nomark _)))))
      (pss_one (ps_set (i := 2) scMisspelt.nd rfl (Or.inl rfl) (pv 3)))
      pss_nil)
      (pss_cons (ps_set (i := 4) scMisspelt.nd rfl (Or.inl rfl) (pe_op op_add (pe_ix ix_list (pv 2) (pe_op op_modN (pe_op op_fdivN (pv 1) pe_int) (pe_callB call_len_seq (by rfl) T.m_len PySem.boot_len (pa_cons (pv 2) pa_nil))) (fun _ _ => rfl)) pe_int))
      (pss_cons (ps_set (i := 5) scMisspelt.nd rfl (Or.inl rfl) (pe_lst (pa_cons pe_str (pa_cons pe_str (pa_cons pe_str (pa_cons pe_str (pa_cons pe_str (pa_cons pe_str (pa_cons pe_str (pa_cons pe_str (pa_cons pe_str (pa_cons pe_str (pa_cons pe_str (pa_cons pe_str pa_nil))))))))))))))
      (pss_one (ps_ret (pe_op op_cat (pe_op op_cat (pe_slice sl_list (pv 0) po_none (po_some (pv 4))) (pe_lst (pa_cons (pe_tup (pa_cons (pe_ix ix_list (pv 5) (pe_op op_modN (pe_op op_fdivN (pv 1) pe_int) pe_int) (fun _ _ => rfl)) (pa_cons (pe_ix ix_tup (pe_ix ix_list (pv 0) (pe_op op_sub (pv 4) pe_int) (fun _ _ => rfl)) pe_int (fun _ _ => rfl)) pa_nil))) pa_nil))) (pe_slice sl_list (pv 0) (po_some (pv 4)) po_none)))))))))), ?_⟩
    refine slots (start_Misspelt _ _) ?_
    have lt := tr.length
    have its : Items K H ys := .ofRows tr ok
    have se : ∀ a b : Str, decide (V.str a = V.str b) = decide (a = b) := fun a b => decide_eq_decide.mpr ⟨V.str.inj, congrArg V.str⟩
    let f : Nat → Bool := fun m => decide ((rows.getD m []).headD "" = "begins")
    have rowAt : ∀ m, m < rows.length → ∃ t r, ys[m]? = some (.ref t) ∧ rows.getD m [] = r ∧ r.ok ∧ H t = some (.tup r.vs) := fun m hm => by
      obtain ⟨t, ht, hh⟩ := tr.get m (List.getElem?_eq_getElem hm)
      exact ⟨t, rows[m], ht, by rw [List.getD_eq_getElem?_getD, List.getElem?_eq_getElem hm]; rfl, ok _ (List.getElem_mem hm), hh⟩
    refine B_setL (l_cmp1 (n := (ys.length : Int)) f (fun m => V.int m) (g_cons (v_len (v_slot rfl) (SqL.of hp)) g_nil) (by omega) (fun _ => rfl) (fun m H1 g1 hm => ?tt) (fun m H1 g1 hm _ => v_slot rfl)) fun pl H1 npl e1 hpl => ?_
    case tt =>
      obtain ⟨t, r, ht, er, okr, hh⟩ := rowAt m (by omega)
      obtain ⟨w, n, tl, rfl, _⟩ := ok_cons okr
      refine Ts.is (s_test (v_op (v_op (v_op (v_slot rfl) (v_slot rfl) (bi_ixL (SqL.of (g1.lst hp)) (atI_nat ht))) v_con (bi_ixT (SqT.of (g1.tup hh)) (show atI _ ((0 : Nat) : Int) = _ from atI_nat rfl))) v_con (bi_eq rfl))) ?_
      show decide (V.str w = V.str "begins") = decide ((rows.getD m []).headD "" = "begins")
      rw [er, se]
      rfl
    walk_at "n"
    rw [Int.toNat_natCast, lt] at hpl
    let P : List Nat := (List.range rows.length).filter f
    replace hpl : H1 pl = some (.lst (P.map nV)) := hpl
    have hP : ∀ k ∈ P, k < rows.length ∧ f k = true := fun k hk => by
      obtain ⟨a, b⟩ := List.mem_filter.mp hk
      exact ⟨List.mem_range.mp a, b⟩
    have lP : P.length ≤ 800 := by
      have := List.length_filter_le f (List.range rows.length)
      rw [List.length_range] at this
      exact Nat.le_trans this ln
    clear_value P
    refine B_when (s_test (v_opN (v_slot rfl) (l_lst g_nil (show 0 ≤ 100000 by decide)) fun p2 H2 hp2 g2 => XE.bi_eqNil (SqL.of (g2.lst hpl)) (SqL.of hp2))) (fun hb H2 e2 => ?_) fun hb H2 e2 => ?_
    · exact S_ret (v_slot rfl) fun H3 e3 => q _ H3 ((e1.trans e2).trans e3) ⟨p, ys, rfl, ((e1.trans e2).trans e3).lst hp, its.mono ((e1.trans e2).trans e3), by omega⟩
    have nP : 0 < P.length := by
      cases P with
      | nil => cases hb
      | cons _ _ => exact Nat.succ_pos _
    have g2 := e1.trans e2
    let f2 : Nat → Bool := fun j => decide ((rows.getD (P.getD j 0) []).getD 2 "" = "write")
    refine B_setL (l_cmpL f2 (fun j => V.int (P.getD j 0)) (v_slot rfl) (SqL.of (e2.lst hpl)) (by rw [List.length_map]; omega) (fun _ => rfl) (fun j x H3 g3 hx => ?t2) (fun j x H3 g3 hx _ => ?e2)) fun pw H3 npw e3 hpw => ?_
    case t2 =>
      rw [List.getElem?_map] at hx
      have hj : j < P.length := by
        cases e : P[j]? with
        | none => rw [e] at hx; cases hx
        | some k => exact (List.getElem?_eq_some_iff.mp e).1
      rw [List.getElem?_eq_getElem hj] at hx
      obtain rfl := Option.some.inj hx
      obtain ⟨k1, k2⟩ := hP _ (List.getElem_mem hj)
      obtain ⟨t, r, ht, er, okr, hh⟩ := rowAt _ k1
      have hd : (rows.getD P[j] []).headD "" = "begins" := of_decide_eq_true k2
      rw [er] at hd
      obtain ⟨n, x, rfl⟩ := beg_row okr hd
      refine Ts.is (s_test (v_op (v_op (v_op (v_slot rfl) (v_slot rfl) (bi_ixL (SqL.of ((g2.trans g3).lst hp)) (atI_nat ht))) v_con (bi_ixT (SqT.of ((g2.trans g3).tup hh)) rfl)) v_con (bi_eq rfl))) ?_
      show decide (V.str x = V.str "write") = decide ((rows.getD (P.getD j 0) []).getD 2 "" = "write")
      rw [List.getD_eq_getElem?_getD (l := P), List.getElem?_eq_getElem hj]
      show decide (V.str x = V.str "write") = decide ((rows.getD P[j] []).getD 2 "" = "write")
      rw [er, se]
      rfl
    case e2 =>
      rw [List.getElem?_map] at hx
      cases e : P[j]? with
      | none => rw [e] at hx; cases hx
      | some k =>
        rw [e] at hx
        obtain rfl := Option.some.inj hx
        rw [List.getD_eq_getElem?_getD, e]
        exact v_slot rfl
    walk_at "n"
    have g3 := g2.trans e3
    rw [List.length_map] at hpw
    let W : List Nat := ((List.range P.length).filter f2).map fun j => P.getD j 0
    replace hpw : H3 pw = some (.lst (W.map nV)) := by
      rw [hpw]
      unfold out
      rw [List.map_map]
      rfl
    have hW : ∀ k ∈ W, k < rows.length := fun k hk => by
      obtain ⟨j, hj, rfl⟩ := List.mem_map.mp hk
      have hj := List.mem_range.mp (List.mem_filter.mp hj).1
      rw [List.getD_eq_getElem?_getD, List.getElem?_eq_getElem hj]
      exact (hP _ (List.getElem_mem hj)).1
    have lW : W.length ≤ 800 := by
      have := List.length_filter_le f2 (List.range P.length)
      rw [List.length_range] at this
      show (List.map _ _).length ≤ 800
      rw [List.length_map]
      omega
    clear_value W
    let bb : Bool := !W.isEmpty && !decide (V.int (c.fmod 3) = V.int 0)
    refine B_whenSet (b := bb) (y := .ref pl) (v := .ref (if bb = true then pw else pl)) (Ts.is (s_and (s_test (v_opN (v_slot rfl) (l_lst g_nil (show 0 ≤ 100000 by decide)) fun p2 H4 hp2 g4 => XE.bi_neNil (SqL.of (g4.lst hpw)) (SqL.of hp2))) fun _ => s_test (v_op (v_op (v_slot rfl) v_con (bi_C (show (3 : Int) ≠ 0 by decide))) v_con (bi_ne rfl))) (by rw [List.isEmpty_map])) rfl (fun hb => by rw [if_pos hb]; exact v_slot rfl) (fun hb => by rw [if_neg (by rw [hb]; exact Bool.false_ne_true)]) fun H4 e4 => ?_
    walk_at "n"
    have g4 := g3.trans e4
    obtain ⟨M, hM, nM, lM, bM⟩ : ∃ M : List Nat, H4 (if bb = true then pw else pl) = some (.lst (M.map nV)) ∧ 0 < M.length ∧ M.length ≤ 800 ∧ ∀ k ∈ M, k < rows.length := by
      by_cases hb : bb = true
      · rw [if_pos hb]
        refine ⟨W, e4.lst hpw, ?_, lW, hW⟩
        have : (!W.isEmpty) = true := (Bool.and_eq_true _ _ |>.mp hb).1
        cases W with
        | nil => cases this
        | cons _ _ => exact Nat.succ_pos _
      · rw [if_neg hb]
        exact ⟨P, (e3.trans e4).lst (e2.lst hpl), nP, lP, fun k hk => (hP k hk).1⟩
    generalize (if bb = true then pw else pl) = pm at hM ⊢
    have b1 := fmod_in (c.fdiv 3) (m := ((M.map nV).length : Int)) (by rw [List.length_map]; omega)
    obtain ⟨j, u, hu, au⟩ := atI_ex (xs := M.map nV) (i := (c.fdiv 3).fmod ((M.map nV).length : Int)) (by omega) b1.2
    obtain ⟨k, hk, rfl⟩ := List.mem_map.mp (List.mem_of_getElem? hu)
    have hkn := bM k hk
    refine B_set (v_op (v_op (v_slot rfl) (v_op (v_op (v_slot rfl) v_con (bi_C (show CDivN c 3 from ⟨by decide, by decide⟩))) (v_len (v_slot rfl) (SqL.of hM)) (bi_C (show ((M.map nV).length : Int) ≠ 0 by rw [List.length_map]; omega))) (bi_ixL (SqL.of hM) au)) v_con bi_0) fun H5 e5 => ?_
    walk_at "n"
    have g5 := g4.trans e5
    have lw : ∀ z ∈ (["eases", "sits", "", "asks", "leaves", "left ", "Eased", "ease", "eased", "asked", "left", "came"] : List Str), z.length ≤ 100000 ∧ (z.cps.toList.all fun k => decide (k < 128)) = true := by decide +kernel
    refine B_setL (l_lst (vs := (["eases", "sits", "", "asks", "leaves", "left ", "Eased", "ease", "eased", "asked", "left", "came"] : List Str).map V.str) (g_cons v_con (g_cons v_con (g_cons v_con (g_cons v_con (g_cons v_con (g_cons v_con (g_cons v_con (g_cons v_con (g_cons v_con (g_cons v_con (g_cons v_con (g_cons v_con g_nil)))))))))))) (show 12 ≤ 100000 by decide)) fun px H6 npx e6 hpx => ?_
    walk_at "n"
    have g6 := g5.trans e6
    have b12 := fmod_in (c.fdiv 7) (m := 12) (by decide)
    obtain ⟨j2, u2, hu2, au2⟩ := atI_ex (xs := (["eases", "sits", "", "asks", "leaves", "left ", "Eased", "ease", "eased", "asked", "left", "came"] : List Str).map V.str) (i := (c.fdiv 7).fmod 12) (by show -(12 : Int) ≤ _; omega) (by show _ < (12 : Int); omega)
    obtain ⟨z, hz, rfl⟩ := List.mem_map.mp (List.mem_of_getElem? hu2)
    obtain ⟨lz, az⟩ := lw z hz
    obtain ⟨t, r, ht, er, okr, hh⟩ := rowAt k hkn
    obtain ⟨w, n, tl, rfl, _, an, _, lnn, _, _⟩ := row_two okr
    have cutI : ∀ {H' : Hp} {σ : L2.St} {tl th : TO} {lo hi : Option Int}, Gr H H' → σ[0]? = some (some (.ref p)) → Pt tl σ H' lo → Pt th σ H' hi → Vr (tSl (rSlL K) (tVar 0) tl th) σ H' (GivesI K 800) := fun {H' σ tl th lo hi} g s0 h1 h2 => r_items (l_slice (v_slot s0) h1 h2 (SqL.of (g.lst hp))) (its.mono g).cut (by have := cutV_len ys lo hi; omega)
    have kk : ((k : Int) + 1) - 1 = ((k : Nat) : Int) := by omega
    refine S_retR (r_catI (n := 800 + 1) (m := 800) (r_catI (n := 800) (m := 1) (cutI g6 rfl p_no (p_int (v_slot rfl))) (r_oneR (ti_tup (td_cons (td_s (v_op (v_slot rfl) (v_op (v_op (v_slot rfl) v_con (bi_C (show CDivN c 7 from ⟨by decide, by decide⟩))) v_con (bi_C (show (12 : Int) ≠ 0 by decide))) (bi_ixL (SqL.of hpx) au2)) lz (asc_of az)) (td_cons (td_s (v_op (v_op (v_slot rfl) (Vl.is (v_op (v_slot rfl) v_con bi_0) (congrArg V.int kk)) (bi_ixL (SqL.of (g6.lst hp)) (atI_nat ht))) v_con (bi_ixT (SqT.of (g6.tup hh)) (show atI _ ((1 : Nat) : Int) = _ from atI_nat rfl))) (by omega) an) td_nil)) (show 2 ≤ 100000 by decide))) (by decide)) (cutI g6 rfl (p_int (v_slot rfl)) p_no) (by decide)) fun v H7 e7 h => q v H7 (g6.trans e7) (h.le (by decide))
theorem ok_Spoilt (T : Top K mg) (TB : Tabs T base) : FnOk P w K mg base CX0 2 T.f_Spoilt T.fd_Spoilt ["_law_rows", "_law_cell", "_law_more"] (spSpoilt K) := by
  have GMisspelt := ok_Misspelt (P := P) (w := w) (base := base) T TB
  have GOtherRow := ok_OtherRow (P := P) (w := w) (base := base) T TB
  refine T.F_Spoilt.ok scSpoilt (fun vs H Q E h => ?_) (fun cdv A outer s H vs Q E hr h => ?_)
  · obtain ⟨p, c, m, ys, rows, rfl, hp, tr, ok, ln, q⟩ := h
    rfl
  · obtain ⟨p, c, m, ys, rows, rfl, hp, tr, ok, ln, q⟩ := h
    refine ⟨_, (pss_cons (ps_set (i := 3) scSpoilt.nd rfl (Or.inl rfl) (pe_op op_modN (pv 1) pe_int))
      (pss_cons (ps_if (PW.pt (pw_or (pt_cmpR (XE.op_eqX hr.units) (pv 0) (pe_lst pa_nil) (nomark _)) (pw_or (pt_cmpR op_eq (pv 3) pe_int (nomark _)) (pw_or1 (pt_cmpR op_gt (pv 3) pe_int (nomark _))))))
      (pss_one (ps_ret (pv 0)))
      pss_nil)
      (pss_cons (ps_if (pt_cmpR op_eq (pv 3) pe_int (nomark _))
      (pss_one (ps_ret (pe_call GMisspelt hr (by rfl) T.g_Misspelt T.F_Misspelt.kp T.B_Misspelt .nil pass0 (pa_cons (pv 0) (pa_cons (pv 2) pa_nil)))))
      pss_nil)
      (pss_cons (ps_set (i := 4) scSpoilt.nd rfl (Or.inl rfl) (pe_op op_modN (pe_op op_fdivN (pv 1) pe_int) (pe_callB call_len_seq (by rfl) T.m_len PySem.boot_len (pa_cons (pv 0) pa_nil))))
      (pss_cons (ps_if (pt_cmpR op_eq (pv 3) pe_int (nomark _))
      (pss_one (ps_ret (pe_op op_cat (pe_slice sl_list (pv 0) po_none (po_some (pv 4))) (pe_slice sl_list (pv 0) (po_some (pe_op op_add (pv 4) pe_int)) po_none))))
      pss_nil)
      (pss_cons (ps_if (pt_cmpR op_eq (pv 3) pe_int (nomark _))
      (pss_one (ps_ret (pe_op op_cat (pe_slice sl_list (pv 0) po_none (po_some (pe_op op_add (pv 4) pe_int))) (pe_slice sl_list (pv 0) (po_some (pv 4)) po_none))))
      pss_nil)
      (pss_cons (ps_if (pt_cmpR op_eq (pv 3) pe_int (nomark _))
      (pss_cons (ps_set (i := 5) scSpoilt.nd rfl (Or.inl rfl) (pe_slice sl_list (pv 0) (po_some (pe_op op_add (pv 4) pe_int)) po_none))
      (pss_one (ps_ret (pe_op op_cat (pe_op op_cat (pe_op op_cat (pe_slice sl_list (pv 0) po_none (po_some (pv 4))) (pe_slice sl_list (pv 5) po_none (po_some pe_int))) (pe_lst (pa_cons (pe_ix ix_list (pv 0) (pv 4) (fun _ _ => rfl)) pa_nil))) (pe_slice sl_list (pv 5) (po_some pe_int) po_none)))))
      pss_nil)
      (pss_cons (ps_if (pt_cmpR op_eq (pv 3) pe_int (nomark _))
      (pss_one (ps_ret (pe_slice sl_list (pv 0) po_none (po_some (pv 4)))))
      pss_nil)
      (pss_cons (ps_if (pt_cmpR op_eq (pv 3) pe_int (nomark _))
      (pss_cons (ps_set (i := 6) scSpoilt.nd rfl (Or.inl rfl) (pe_ix ix_tup (pe_ix ix_list (pv 0) (pv 4) (fun _ _ => rfl)) pe_int (fun _ _ => rfl)))
      (pss_cons (ps_set (i := 7) scSpoilt.nd rfl (Or.inl rfl) (pe_lst (pa_cons (pe_tup (pa_cons pe_str (pa_cons (pv 6) pa_nil))) (pa_cons (pe_tup (pa_cons pe_str (pa_cons (pv 6) pa_nil))) (pa_cons (pe_tup (pa_cons pe_str (pa_cons pe_str (pa_cons pe_str pa_nil)))) pa_nil)))))
      (pss_cons (ps_expr (pe_bm PySem.F.plainAttrs_list PySem.F.slot_list_append PySem.F.type_list_append mt_append (pv 7) (pa_cons (pe_tup (pa_cons pe_str (pa_cons pe_str (pa_cons pe_str pa_nil)))) pa_nil)))
      (pss_one (ps_ret (pe_op op_cat (pe_op op_cat (pe_slice sl_list (pv 0) po_none (po_some (pv 4))) (pe_lst (pa_cons (pe_ix ix_list (pv 7) (pe_op op_modN (pv 2) pe_int) (fun _ _ => rfl)) pa_nil))) (pe_slice sl_list (pv 0) (po_some (pv 4)) po_none)))))))
      pss_nil)
      (pss_cons (ps_set (i := 8) scSpoilt.nd rfl (Or.inl rfl) (pe_call GOtherRow hr (by rfl) T.g_OtherRow T.F_OtherRow.kp T.B_OtherRow .nil pass0 (pa_cons (pe_ix ix_list (pv 0) (pv 4) (fun _ _ => rfl)) (pa_cons (pv 3) (pa_cons (pv 2) (pa_cons (pe_ix ix_list (pv 0) (pe_op op_sub (pv 4) pe_int) (fun _ _ => rfl)) pa_nil))))))
      (pss_one (ps_ret (pe_op op_cat (pe_op op_cat (pe_slice sl_list (pv 0) po_none (po_some (pv 4))) (pe_lst (pa_cons (pv 8) pa_nil))) (pe_slice sl_list (pv 0) (po_some (pe_op op_add (pv 4) pe_int)) po_none)))))))))))))), ?_⟩
    refine slots (start_Spoilt _ _ _) ?_
    have lt := tr.length
    have its : Items K H ys := .ofRows tr ok
    have cutI : ∀ {H' : Hp} {σ : L2.St} {tl th : TO} {lo hi : Option Int}, Gr H H' → σ[0]? = some (some (.ref p)) → Pt tl σ H' lo → Pt th σ H' hi → Vr (tSl (rSlL K) (tVar 0) tl th) σ H' (GivesI K 800) := fun {H' σ tl th lo hi} g s0 h1 h2 => r_items (l_slice (v_slot s0) h1 h2 (SqL.of (g.lst hp))) (its.mono g).cut (by have := cutV_len ys lo hi; omega)
    refine B_set (v_op (v_slot rfl) v_con (bi_C (show (12 : Int) ≠ 0 by decide))) fun H1 e1 => ?_
    walk_at "n"
    refine B_when (s_or (s_test (v_opN (v_slot rfl) (l_lst g_nil (show 0 ≤ 100000 by decide)) fun p2 H2 hp2 g2 => XE.bi_eqNil (SqL.of ((e1.trans g2).lst hp)) (SqL.of hp2))) fun _ => s_or (s_test (v_op (v_slot rfl) v_con (bi_eq rfl))) fun _ => s_test (v_op (v_slot rfl) v_con bi_0)) (fun hb H2 e2 => ?_) fun hb H2 e2 => ?_
    · exact S_ret (v_slot rfl) fun H3 e3 => q _ H3 ((e1.trans e2).trans e3) ⟨p, ys, rfl, ((e1.trans e2).trans e3).lst hp, its.mono ((e1.trans e2).trans e3), by omega⟩
    have g2 := e1.trans e2
    have nz : 0 < rows.length := by
      rw [Bool.or_eq_false_iff] at hb
      have := hb.1
      cases ys with
      | nil => cases this
      | cons _ _ => rw [List.length_cons] at lt; omega
    refine B_when (s_test (v_op (v_slot rfl) v_con (bi_eq rfl))) (fun _ H3 e3 => ?_) fun _ H3 e3 => ?_
    · exact S_retR (r_call (g_cons (v_slot rfl) (g_cons (v_slot rfl) g_nil)) fun Hx Qx Ex gx qx => ⟨p, m, ys, rows, rfl, ((g2.trans e3).trans gx).lst hp, tr.mono ((g2.trans e3).trans gx), ok, ln, qx⟩) fun v H4 e4 h => q v H4 ((g2.trans e3).trans e4) (h.le (by decide))
    have g3 := g2.trans e3
    have b1 := fmod_in (c.fdiv 12) (m := (ys.length : Int)) (by omega)
    obtain ⟨k, ek, hk⟩ : ∃ k : Nat, (c.fdiv 12).fmod (ys.length : Int) = (k : Int) ∧ k < rows.length := ⟨((c.fdiv 12).fmod (ys.length : Int)).toNat, by omega, by omega⟩
    refine B_set (Vl.is (v_op (v_op (v_slot rfl) v_con (bi_C (show CDivN c 12 from ⟨by decide, by decide⟩))) (v_len (v_slot rfl) (SqL.of (g3.lst hp))) (bi_C (show (ys.length : Int) ≠ 0 by omega))) (congrArg V.int ek)) fun H4 e4 => ?_
    walk_at "n"
    have g4 := g3.trans e4
    obtain ⟨tk, htk, hhk⟩ := tr.get k (List.getElem?_eq_getElem hk)
    have okk := ok _ (List.getElem_mem hk)
    refine B_when (s_test (v_op (v_slot rfl) v_con (bi_eq rfl))) (fun _ H5 e5 => ?_) fun _ H5 e5 => ?_
    · exact S_retR (r_catI (n := 800) (m := 800) (cutI (g4.trans e5) rfl p_no (p_int (v_slot rfl))) (cutI (g4.trans e5) rfl (p_int (v_op (v_slot rfl) v_con bi_0)) p_no) (by decide)) fun v H6 e6 h => q v H6 ((g4.trans e5).trans e6) (h.le (by decide))
    have g5 := g4.trans e5
    refine B_when (s_test (v_op (v_slot rfl) v_con (bi_eq rfl))) (fun _ H6 e6 => ?_) fun _ H6 e6 => ?_
    · exact S_retR (r_catI (n := 800) (m := 800) (cutI (g5.trans e6) rfl p_no (p_int (v_op (v_slot rfl) v_con bi_0))) (cutI (g5.trans e6) rfl (p_int (v_slot rfl)) p_no) (by decide)) fun v H7 e7 h => q v H7 ((g5.trans e6).trans e7) (h.le (by decide))
    have g6 := g5.trans e6
    refine B_when (s_test (v_op (v_slot rfl) v_con (bi_eq rfl))) (fun _ H7 e7 => ?_) fun _ H7 e7 => ?_
    · have g7 := g6.trans e7
      refine B_setL (l_slice (v_slot rfl) (p_int (v_op (v_slot rfl) v_con bi_0)) p_no (SqL.of (g7.lst hp))) fun pb H8 npb e8 hpb => ?_
      walk_at "n"
      have g8 := g7.trans e8
      have lb := cutV_len ys (some ((k : Int) + 1)) none
      have ib : Items K H8 (cutV ys (some ((k : Int) + 1)) none) := (its.mono g8).cut
      have cutB : ∀ {σ : L2.St} {tl th : TO} {lo hi : Option Int}, σ[5]? = some (some (.ref pb)) → Pt tl σ H8 lo → Pt th σ H8 hi → Vr (tSl (rSlL K) (tVar 5) tl th) σ H8 (GivesI K 800) := fun {σ tl th lo hi} s5 h1 h2 => r_items (l_slice (v_slot s5) h1 h2 (SqL.of hpb)) ib.cut (by have := cutV_len (cutV ys (some ((k : Int) + 1)) none) lo hi; omega)
      exact S_retR (r_catI (n := 800 + 800 + 1) (m := 800) (r_catI (n := 800 + 800) (m := 1) (r_catI (n := 800) (m := 800) (cutI g8 rfl p_no (p_int (v_slot rfl))) (cutB rfl p_no (p_int v_con)) (by decide)) (r_oneV (v_op (v_slot rfl) (v_slot rfl) (bi_ixL (SqL.of (g8.lst hp)) (atI_nat htk))) (.of (g8.tup hhk) okk)) (by decide)) (cutB rfl (p_int v_con) p_no) (by decide)) fun v H9 e9 h => q v H9 (g8.trans e9) (h.le (by decide))
    have g7 := g6.trans e7
    refine B_when (s_test (v_op (v_slot rfl) v_con (bi_eq rfl))) (fun _ H8 e8 => ?_) fun _ H8 e8 => ?_
    · exact S_retR (cutI (g7.trans e8) rfl p_no (p_int (v_slot rfl))) fun v H9 e9 h => q v H9 ((g7.trans e8).trans e9) (h.le (by decide))
    have g8 := g7.trans e8
    obtain ⟨w, n, tl, erow, _, an, _, lnn, _, _⟩ := row_two okk
    rw [erow] at hhk
    refine B_when (s_test (v_op (v_slot rfl) v_con (bi_eq rfl))) (fun _ H9 e9 => ?_) fun _ H9 e9 => ?_
    · have g9 := g8.trans e9
      have l2 : (2 : Nat) ≤ 100000 := by decide
      have l3 : (3 : Nat) ≤ 100000 := by decide
      refine B_set (v_op (v_op (v_slot rfl) (v_slot rfl) (bi_ixL (SqL.of (g9.lst hp)) (atI_nat htk))) v_con (bi_ixT (SqT.of (g9.tup hhk)) (show atI _ ((1 : Nat) : Int) = _ from atI_nat rfl))) fun H10 e10 => ?_
      walk_at "n"
      have g10 := g9.trans e10
      refine B_setR (r_tupsZ (f := JRow.vs) (l := [["left", n], ["asked", n], ["came", "new1", rd]]) (tz_cons (u_tup (g_cons v_con (g_cons (v_slot rfl) g_nil)) l2) (tz_cons (u_tup (g_cons v_con (g_cons (v_slot rfl) g_nil)) l2) (tz_cons (u_tup (g_cons v_con (g_cons v_con (g_cons v_con g_nil))) l3) tz_nil))) (show 3 ≤ 100000 by decide)) fun v H11 e11 ⟨po, zs, ev, npo, hpo, tz⟩ => ?_
      subst ev
      walk_at "n"
      have g11 := g10.trans e11
      have lz := tz.length
      refine B_appU hpo (v_slot rfl) (u_tup (g_cons v_con (g_cons v_con (g_cons v_con g_nil))) l3) (by rw [lz]; exact (show 3 < 100000 by decide)) fun t4 H12 nt4 e12 ht4 => ?_
      have hpo12 := e12.lst hpo
      have g13 : Gr H (upd H12 po (.lst (zs ++ [.ref t4]))) := (g10.trans ((e11.trans e12).chg npo))
      have t13 : TupsAt (upd H12 po (.lst (zs ++ [.ref t4]))) JRow.vs (zs ++ [.ref t4]) (([["left", n], ["asked", n], ["came", "new1", rd]] : List JRow) ++ ([["begins", "new1", rd]] : List JRow)) := ((tz.mono e12).snoc (r := (["begins", "new1", rd] : JRow)) ht4).chg fun ts z => by rw [hpo12] at z; cases z
      have h13 : (upd H12 po (.lst (zs ++ [.ref t4]))) po = some (.lst (zs ++ [.ref t4])) := upd_same
      generalize upd H12 po (.lst (zs ++ [.ref t4])) = H13 at g13 t13 h13 ⊢
      have b4 := fmod_in m (m := 4) (by decide)
      obtain ⟨to, ro, mo, ao, ho⟩ := t13.ix (i := m.fmod 4) (by show -(4 : Int) ≤ _; omega) (by show _ < (4 : Int); omega)
      have oko : ∀ x ∈ ro, Asc x ∧ x.length ≤ 100000 := fun x hx => by
        simp only [List.cons_append, List.nil_append, List.mem_cons, List.not_mem_nil, or_false] at mo
        have cs : ∀ z ∈ (["left", "asked", "came", "new1", rd, "begins"] : List Str), (z.cps.toList.all fun k => decide (k < 128)) = true ∧ z.length ≤ 100000 := by decide +kernel
        have cc : ∀ z ∈ (["left", "asked", "came", "new1", rd, "begins"] : List Str), Asc z ∧ z.length ≤ 100000 := fun z hz => ⟨asc_of (cs z hz).1, (cs z hz).2⟩
        rcases mo with rfl | rfl | rfl | rfl
        · simp only [List.mem_cons, List.not_mem_nil, or_false] at hx
          rcases hx with rfl | rfl
          · exact cc _ (by simp)
          · exact ⟨an, by omega⟩
        · simp only [List.mem_cons, List.not_mem_nil, or_false] at hx
          rcases hx with rfl | rfl
          · exact cc _ (by simp)
          · exact ⟨an, by omega⟩
        · simp only [List.mem_cons, List.not_mem_nil, or_false] at hx
          rcases hx with rfl | rfl | rfl <;> exact cc _ (by simp)
        · simp only [List.mem_cons, List.not_mem_nil, or_false] at hx
          rcases hx with rfl | rfl | rfl <;> exact cc _ (by simp)
      obtain ⟨oo, io⟩ : ∃ o, ItemAt K H13 (.ref to) o := ItemAt.tup ho fun x hx => by
        obtain ⟨s, hs, rfl⟩ := List.mem_map.mp hx
        exact .str (oko s hs).2 (oko s hs).1
      exact S_retR (r_catI (n := 800 + 1) (m := 800) (r_catI (n := 800) (m := 1) (cutI g13 rfl p_no (p_int (v_slot rfl))) (r_oneV (v_op (v_slot rfl) (v_op (v_slot rfl) v_con (bi_C (show (4 : Int) ≠ 0 by decide))) (bi_ixL (SqL.of h13) ao)) io) (by decide)) (cutI g13 rfl (p_int (v_slot rfl)) p_no) (by decide)) fun v H14 e14 h => q v H14 (g13.trans e14) (h.le (by decide))
    have g9 := g8.trans e9
    obtain ⟨ta, ra, ma, aa, ha⟩ := tr.ix (i := (k : Int) - 1) (by omega) (by omega)
    rw [← erow] at hhk
    refine B_setR (R := ThI K) (r_call (g_cons (v_op (v_slot rfl) (v_slot rfl) (bi_ixL (SqL.of (g9.lst hp)) (atI_nat htk))) (g_cons (v_slot rfl) (g_cons (v_slot rfl) (g_cons (v_op (v_slot rfl) (v_op (v_slot rfl) v_con bi_0) (bi_ixL (SqL.of (g9.lst hp)) aa)) g_nil)))) fun Hx Qx Ex gx qx => ⟨tk, ta, _, _, _, ra, rfl, (g9.trans gx).tup hhk, okk, (g9.trans gx).tup ha, ok _ ma, qx⟩) fun v H10 e10 ⟨oo, io⟩ => ?_
    walk_at "n"
    have g10 := g9.trans e10
    exact S_retR (r_catI (n := 800 + 1) (m := 800) (r_catI (n := 800) (m := 1) (cutI g10 rfl p_no (p_int (v_slot rfl))) (r_oneV (v_slot rfl) io) (by decide)) (cutI g10 rfl (p_int (v_op (v_slot rfl) v_con bi_0)) p_no) (by decide)) fun v H11 e11 h => q v H11 (g10.trans e11) (h.le (by decide))

--CUT
/-! ### which class an exception is of -/
def kindNames : List Str := ["BadName", "BadWish", "Known", "Stranger", "Outside", "Inside", "Reads", "Writes", "Asked", "BadText", "BadJournal", "BadNumber"]
def isK (x y : Str) : Bool := kinds.any fun r => decide (r.1 = x) && (decide (r.2.1 = y) && r.2.2)
def kindsOf (x : Str) : List Int := ((List.range 12).filter fun k => isK x (kindNames.getD k "")).map fun k : Nat => (k : Int)
theorem kit_of {K : PySem.W.Frag} (h : exB K = true) {x y : Str} (hx : x ∈ raised) (hy : y ∈ kindNames) : PySem.W.kitOne K (.ref (He.ga K x)) (.ref (He.ga K y)) = some (isK x y) := by
  have m : ∀ x ∈ raised, ∀ y ∈ kindNames, (x, y, isK x y) ∈ kinds ∧ y ≠ "ValueError" := by decide +kernel
  have k := exB_kit h (m x hx y hy).1
  unfold clsV at k
  rw [if_neg (m x hx y hy).2] at k
  exact k
theorem v_isP {K : PySem.W.Frag} {σ : L2.St} {H : Hp} {t1 : TE} {a : Addr} {x y : Str} (ex : exB K = true) (hx : x ∈ raised) (hy : y ∈ kindNames) (h : Vl t1 σ H (.ref a)) : Vl (tCB (RX.rIsP K a (.ref (He.ga K x)) none) (tCons t1 (tCons (tC (.ref (He.ga K y))) tNil))) σ H (.bl (isK x y)) :=
  v_blt (g_cons h (g_cons v_con g_nil)) fun H1 _ _ q => ⟨He.ga K x, .ref (He.ga K y), .ref (He.ga K y), isK x y, rfl, rfl, exB_exc ex hx, rfl, fun _ e => e, kit_of ex hx hy, q H1 (.refl _)⟩
def spKinds (K : PySem.W.Frag) (a : Addr) (c : Value) (d : Option Addr) : Sp := fun vs H Q _ => ∃ x, vs = [.ref a] ∧ x ∈ raised ∧ c = .ref (He.ga K x) ∧ d = none ∧ RL ((kindsOf x).map V.int) H Q

/-! ### the last steps of the law -/
theorem v_isVE {K : PySem.W.Frag} {σ : L2.St} {H : Hp} {t1 : TE} {a : Addr} {x : Str} (h : Vl t1 σ H (.ref a)) (ex : exB K = true) (hx : x ∈ raised) : Vl (tCB (RX.rIsP K a (.ref (He.ga K x)) none) (tCons t1 (tCons (tC (.ty "ValueError")) tNil))) σ H (.bl true) :=
  v_blt (g_cons h (g_cons v_con g_nil)) fun H1 Q _ q => ⟨He.ga K x, .ty "ValueError", .type "ValueError", true, rfl, rfl, exB_exc ex hx, rfl, fun _ e => e, by
    have m : ∀ x ∈ raised, (x, ("ValueError" : Str), true) ∈ kinds := by decide +kernel
    have k := exB_kit ex (m x hx)
    unfold clsV at k
    rw [if_pos rfl] at k
    exact k, q H1 (.refl _)⟩
theorem cls_names {K : PySem.W.Frag} : ∀ names : List Str, Paired ClsV (names.map fun y => V.ref (He.ga K y)) (names.map fun y => Value.ref (He.ga K y))
  | [] => .nil
  | _ :: l => .cons (.own _) (cls_names l)
theorem kit_names {K : PySem.W.Frag} (ex : exB K = true) {x : Str} (hx : x ∈ raised) : ∀ {names : List Str}, (∀ y ∈ names, y ∈ kindNames) → PySem.W.kitAny K (.ref (He.ga K x)) (names.map fun y => Value.ref (He.ga K y)) = some (names.any fun y => isK x y)
  | [], _ => kitAny_nil
  | y :: l, h => kitAny_cons (kit_of ex hx (h y List.mem_cons_self)) (fun e => by
      rw [List.any_cons, e, Bool.false_or]
      exact kit_names ex hx fun z hz => h z (List.mem_cons_of_mem _ hz)) fun e => by rw [List.any_cons, e, Bool.true_or]
theorem v_isPT {K : PySem.W.Frag} {σ : L2.St} {H : Hp} {t1 t2 : TE} {a : Addr} {x : Str} {names : List Str} (ex : exB K = true) (hx : x ∈ raised) (hn : ∀ y ∈ names, y ∈ kindNames) (h : Vl t1 σ H (.ref a)) (h2 : Tu t2 σ H (names.map fun y => V.ref (He.ga K y))) : Vl (tCB (RX.rIsPT K a (.ref (He.ga K x)) none) (tCons t1 (tCons t2 tNil))) σ H (.bl (names.any fun y => isK x y)) :=
  fun H1 Q g q => h H1 _ g fun H2 g2 => h2 H2 _ (g.trans g2) fun tp H3 _ g3 ht => ⟨He.ga K x, tp, _, _, _, rfl, rfl, exB_exc ex hx, rfl, ht, cls_names names, kit_names ex hx hn, q H3 (g2.trans g3)⟩
section
variable {K : PySem.W.Frag} {σ : L2.St} {H : Hp} {t1 : TE} {a1 : TA} {D : Ends} {u1 : TS} {vs : List V} {sp : Sp}
theorem S_dropS {E : L2.St → XK} (h : Ag a1 σ H vs) (k : ∀ H1, Gr H H1 → sp vs H1 (fun _ H2 => D.nx σ H2) (E σ)) : tDrop (tCallS sp E a1) D σ H := h H _ (.refl _) k
theorem B_pop {l : Addr} {xs : List V} {y : V} (h : Vl t1 σ H (.ref l)) (hl : H l = some (.lst (xs ++ [y]))) (k : ∀ H1, Gr H H1 → u1 D σ (upd H1 l (.lst xs))) : tSeq (tDrop (tBM0 K "list" rPop t1)) u1 D σ H := h H _ (.refl _) fun H1 g =>
  ⟨.inl ⟨rfl, _, SqL.of (g.lst hl)⟩, l, xs ++ [y], y, rfl, rfl, g.lst hl, by simp, by
    rw [List.dropLast_concat]
    exact k H1 g⟩
end
def spToldF : Sp := fun vs H Q _ => ∃ a : Option Nat, vs = [natV a, natV a] ∧ RV (.bl true) H Q
theorem sv_toldf {H : Hp} {a : Option Nat} : SpV spToldF [natV a, natV a] H (.bl true) := fun H1 Q E g q => ⟨a, rfl, q⟩
theorem ok_ToldF (T : Top K mg) (TB : Tabs T base) : FnOk P w K mg base CX0 2 T.f_ToldF T.fd_ToldF ["_law_found", "_law_due"] (spToldF) := by
  have GWhole := ok_Whole (P := P) (w := w) (base := base) T TB
  refine T.F_ToldF.ok scToldF (fun vs H Q E h => ?_) (fun cdv A outer s H vs Q E hr h => ?_)
  · obtain ⟨a, rfl, q⟩ := h
    rfl
  · obtain ⟨a, rfl, q⟩ := h
    refine ⟨_, (pss_cons (ps_if (pt_cmpR op_isN (pv 1) pe_non (nomark _))
      (pss_one (ps_ret (pe_cmpR op_isN (pv 0) pe_non (nomark _))))
      pss_nil)
      (pss_one (ps_ret (pe_and (pe_call GWhole hr (by rfl) T.g_Whole T.F_Whole.kp T.B_Whole .nil pass0 (pa_cons (pv 0) pa_nil)) (pe_one (pe_cmpR op_eq (pv 0) (pv 1) (nomark _))))))), ?_⟩
    refine slots (start_ToldF _ _) ?_
    cases a with
    | none =>
      refine B_when (b := true) (Ts.is (s_test (v_op (v_slot rfl) v_con bi_isN)) rfl) (fun _ H1 e1 => ?_) fun z => nomatch z
      exact S_ret (Vl.is (v_op (v_slot rfl) v_con bi_isN) rfl) fun H2 e2 => q H2 (e1.trans e2)
    | some k =>
      refine B_when (b := false) (Ts.is (s_test (v_op (v_slot rfl) v_con bi_isN)) rfl) (fun z => nomatch z) fun _ H1 e1 => ?_
      exact S_ret (v_and (v_call (g_cons (v_slot rfl) g_nil) fun Hx Qx Ex gx qx => ⟨_, rfl, qx⟩) fun _ => Vl.is (v_op (v_slot rfl) (v_slot rfl) (bi_eq rfl)) (by rw [decide_eq_true rfl])) fun H2 e2 => q H2 (e1.trans e2)
def spRefuses (K : PySem.W.Frag) (P : Addr) : Sp := fun vs H Q _ => ∃ (v w : V) (pl : Addr) (xs : List V) (l : List (Option JRow)), vs = [v, w, .ref pl] ∧ GxR.TabG H P ∧ Num3 K v H ∧ Num3 K w H ∧ (numV 1 v && numV 0 w) = false ∧ H pl = some (.lst xs) ∧ ItemsAt K H xs l ∧ l.length ≤ 5000 ∧ RV (.bl true) H Q
theorem ok_Refuses (T : Top K mg) (TB : Tabs T base) : FnOk P w K mg base CX0 9 T.f_Refuses T.fd_Refuses ["_law_seats_here", "_law_patience_here", "_law_rows"] (spRefuses K T.ta_IsName) := by
  have GJudged := ok_Judged (P := P) (w := w) (base := base) T TB
  have GRoomOf := ok_RoomOf (P := P) (w := w) (base := base) T TB
  refine T.F_Refuses.ok scRefuses (fun vs H Q E h => ?_) (fun cdv A outer s H vs Q E hr h => ?_)
  · obtain ⟨v, w, pl, xs, l, rfl, hT, nv, nw, bad, hpl, it, ln, q⟩ := h
    rfl
  · obtain ⟨v, w, pl, xs, l, rfl, hT, nv, nw, bad, hpl, it, ln, q⟩ := h
    refine ⟨_, (pss_cons (ps_set (i := 3) scRefuses.nd rfl (Or.inl rfl) pe_int)
      (pss_cons (L2N.ps_try_many rfl rfl RX.takesN (fun W pn xe tk0 po0 => (pss_one (ps_expr (pe_callS GJudged hr (by rfl) T.g_Judged T.F_Judged.kp T.B_Judged (fun σ => L2N.passAt tk0 σ) (pa_cons (pv 0) (pa_cons (pv 1) (pa_cons (pv 2) pa_nil))))))) (.cons ⟨rfl, by decide, .inl T.gc_BadNumber⟩ (fun a oe cls d pn hz hf => (pss_one (ps_set (i := 3) scRefuses.nd rfl (Or.inl rfl) (pe_op op_add (pv 3) pe_int)))) .nil))
      (pss_cons (L2N.ps_try_many rfl rfl RX.takesN (fun W pn xe tk1 po1 => (pss_one (ps_expr (pe_callS GRoomOf hr (by rfl) T.g_RoomOf T.F_RoomOf.kp T.B_RoomOf (fun σ => L2N.passAt tk1 σ) (pa_cons (pv 0) (pa_cons (pv 1) (pa_cons (pv 2) pa_nil))))))) (.cons ⟨rfl, by decide, .inl T.gc_BadNumber⟩ (fun a oe cls d pn hz hf => (pss_one (ps_set (i := 3) scRefuses.nd rfl (Or.inl rfl) (pe_op op_add (pv 3) pe_int)))) .nil))
      (pss_one (ps_ret (pe_cmpR op_eq (pv 3) pe_int (nomark _))))))), ?_⟩
    refine slots (start_Refuses _ _ _) ?_
    have se : ∀ a b : Int, decide (V.int a = V.int b) = decide (a = b) := fun a b => decide_eq_decide.mpr ⟨V.int.inj, congrArg V.int⟩
    refine B_set v_con fun H1 e1 => ?_
    walk_at "n"
    show tDrop _ _ _ _
    refine S_dropS (g_cons (v_slot rfl) (g_cons (v_slot rfl) (g_cons (v_slot rfl) g_nil))) fun H2 e2 => ⟨v, w, pl, xs, l, rfl, (e1.trans e2).tab hT, nv.mono (e1.trans e2), nw.mono (e1.trans e2), (e1.trans e2).lst hpl, (it.mono (e1.trans e2)).rows, ln, fun _ H3 e3 => ⟨true, T.e_BadNumber_BadNumber, fun _ a ha => ?_, fun z => nomatch z⟩, fun s p es ep nn => by subst es ep; rw [bad] at nn; cases nn⟩
    have g3 := (e1.trans e2).trans e3
    refine S_set (v_op (v_slot rfl) v_con bi_0) fun H4 e4 => ?_
    have g4 := g3.trans e4
    walk_at "n"
    dsimp only
    show tDrop _ _ _ _
    refine S_dropS (g_cons (v_slot rfl) (g_cons (v_slot rfl) (g_cons (v_slot rfl) g_nil))) fun H5 e5 => ⟨v, w, pl, xs, l, rfl, (g4.trans e5).tab hT, nv.mono (g4.trans e5), nw.mono (g4.trans e5), (g4.trans e5).lst hpl, (it.mono (g4.trans e5)).rows, ln, fun _ H6 e6 => ⟨true, T.e_BadNumber_BadNumber, fun _ a ha => ?_, fun z => nomatch z⟩, fun s p es ep nn => by subst es ep; rw [bad] at nn; cases nn⟩
    refine S_set (v_op (v_slot rfl) v_con bi_0) fun H7 e7 => ?_
    walk_at "n"
    dsimp only
    exact S_ret (Vl.is (v_op (v_slot rfl) v_con (bi_eq rfl)) (by rw [se]; rfl)) fun H8 e8 => q H8 (((g4.trans e5).trans e6).trans (e7.trans e8))
def spRefusedRows (K : PySem.W.Frag) (P : Addr) : Sp := fun vs H Q _ => ∃ (seats pat : Int) (pl : Addr) (xs : List V) (l : List (Option JRow)) (k : Nat), vs = [.int seats, .int pat, .ref pl] ∧ GxR.TabG H P ∧ (numV 1 (.int seats) && numV 0 (.int pat)) = true ∧ H pl = some (.lst xs) ∧ ItemsAt K H xs l ∧ l.length ≤ 5000 ∧ gone seats pat Now.none l 0 = some k ∧ RV (.bl true) H Q
theorem ok_RefusedRows (T : Top K mg) (TB : Tabs T base) : FnOk P w K mg base CX0 9 T.f_RefusedRows T.fd_RefusedRows ["_law_seats_here", "_law_patience_here", "_law_rows"] (spRefusedRows K T.ta_IsName) := by
  have GRoomOf := ok_RoomOf (P := P) (w := w) (base := base) T TB
  refine T.F_RefusedRows.ok scRefusedRows (fun vs H Q E h => ?_) (fun cdv A outer s H vs Q E hr h => ?_)
  · obtain ⟨seats, pat, pl, xs, l, k, rfl, hT, good, hpl, it, ln, hk, q⟩ := h
    rfl
  · obtain ⟨seats, pat, pl, xs, l, k, rfl, hT, good, hpl, it, ln, hk, q⟩ := h
    refine ⟨_, (pss_cons (ps_set (i := 3) scRefusedRows.nd rfl (Or.inl rfl) (pe_callTy call_list_of (by rfl) T.m_list (by decide +kernel) (pa_cons (pv 2) pa_nil)))
      (pss_cons (L2N.ps_try_as (i := 4) rfl rfl scRefusedRows.nd rfl rfl ⟨rfl, by decide, .inl T.gc_RoomError⟩ RX.takesN (fun W pn xe tk0 po0 => (pss_one (ps_expr (pe_callS GRoomOf hr (by rfl) T.g_RoomOf T.F_RoomOf.kp T.B_RoomOf (fun σ => L2N.passAt tk0 σ) (pa_cons (pv 0) (pa_cons (pv 1) (pa_cons (pv 3) pa_nil))))))) (fun a oe cls d pn hz hf => (pss_cons (ps_if (pt_val (pe_callB (show CallR _ (.builtin "isinstance") (RX.rIsPT K a cls d) from RX.call_isPT List.mem_cons_self hz.zc hf) (by rfl) T.m_isinstance (by decide +kernel) (pa_cons (pv 4) (pa_cons (pe_tup (pa_cons (pe_glob (v := .ref (He.ga K "Asked")) rfl T.gc_Asked rfl) (pa_cons (pe_glob (v := .ref (He.ga K "BadName")) rfl T.gc_BadName rfl) (pa_cons (pe_glob (v := .ref (He.ga K "BadNumber")) rfl T.gc_BadNumber rfl) (pa_cons (pe_glob (v := .ref (He.ga K "BadText")) rfl T.gc_BadText rfl) (pa_cons (pe_glob (v := .ref (He.ga K "BadWish")) rfl T.gc_BadWish rfl) (pa_cons (pe_glob (v := .ref (He.ga K "Inside")) rfl T.gc_Inside rfl) (pa_cons (pe_glob (v := .ref (He.ga K "Known")) rfl T.gc_Known rfl) (pa_cons (pe_glob (v := .ref (He.ga K "Outside")) rfl T.gc_Outside rfl) pa_nil))))))))) pa_nil))))
      (pss_one (ps_ret pe_bl))
      pss_nil)
      (pss_cons (ps_if (PW.pt (pw_or (pt_val (pe_callB (show CallR _ (.builtin "isinstance") (RX.rIsPT K a cls d) from RX.call_isPT List.mem_cons_self hz.zc hf) (by rfl) T.m_isinstance (by decide +kernel) (pa_cons (pv 4) (pa_cons (pe_tup (pa_cons (pe_glob (v := .ref (He.ga K "Reads")) rfl T.gc_Reads rfl) (pa_cons (pe_glob (v := .ref (He.ga K "Stranger")) rfl T.gc_Stranger rfl) (pa_cons (pe_glob (v := .ref (He.ga K "Writes")) rfl T.gc_Writes rfl) pa_nil)))) pa_nil)))) (pw_or1 (pt_not (pt_val (pe_callB (show CallR _ (.builtin "isinstance") (RX.rIsP K a cls d) from RX.call_isP List.mem_cons_self hz.zc hf) (by rfl) T.m_isinstance (by decide +kernel) (pa_cons (pv 4) (pa_cons (pe_glob (v := .ref (He.ga K "BadJournal")) rfl T.gc_BadJournal rfl) pa_nil))))))))
      (pss_one (ps_ret pe_bl))
      pss_nil)
      (pss_one (ps_ret (pe_and (pe_cmpR (r := XE.rEqX K) (XE.op_eqX hr.units) (pv 3) (pv 2) (nomark _)) (pe_one (pe_callB (show CallR _ (.builtin "isinstance") (RX.rIsP K a cls d) from RX.call_isP List.mem_cons_self hz.zc hf) (by rfl) T.m_isinstance (by decide +kernel) (pa_cons (pv 4) (pa_cons (pe_bltn (v := .ty "ValueError") (by rfl) T.m_ValueError (by decide +kernel) rfl) pa_nil)))))))))))
      (pss_one (ps_ret pe_bl)))), ?_⟩
    refine slots (start_RefusedRows _ _ _) ?_
    have ex := T.ex
    have hx : ("BadJournal" : Str) ∈ raised := by decide +kernel
    refine B_setL (l_list (v_slot rfl) (SqL.of hpl)) fun ph H1 nph e1 hph => ?_
    walk_at "n"
    show tDrop _ _ _ _
    refine S_dropS (g_cons (v_slot rfl) (g_cons (v_slot rfl) (g_cons (v_slot rfl) g_nil))) fun H2 e2 => ⟨.int seats, .int pat, ph, xs, l, rfl, (e1.trans e2).tab hT, .inl ⟨_, rfl⟩, .inl ⟨_, rfl⟩, e2.lst hph, (it.mono (e1.trans e2)).rows, ln, (fun z => by rw [good] at z; cases z), fun s p es ep nn => ?_⟩
    cases es
    cases ep
    refine ⟨fun j hj H3 e3 => ⟨true, T.e_BadJournal_RoomError, fun _ a ha => ?_, fun z => nomatch z⟩, fun hg => by rw [hk] at hg; cases hg⟩
    have g3 := (e1.trans e2).trans e3
    walk_at "n"
    refine B_when (b := false) (Ts.is (s_B (v_isPT (names := ["Asked", "BadName", "BadNumber", "BadText", "BadWish", "Inside", "Known", "Outside"]) ex hx (by decide +kernel) (v_slot rfl) (u_tup (g_cons v_con (g_cons v_con (g_cons v_con (g_cons v_con (g_cons v_con (g_cons v_con (g_cons v_con (g_cons v_con g_nil)))))))) (show 8 ≤ 100000 by decide)))) (by decide +kernel)) (fun z => nomatch z) fun _ H4 e4 => ?_
    refine B_when (b := false) (Ts.is (s_or (b := false) (c := false) (Ts.is (s_B (v_isPT (names := ["Reads", "Stranger", "Writes"]) ex hx (by decide +kernel) (v_slot rfl) (u_tup (g_cons v_con (g_cons v_con (g_cons v_con g_nil))) (show 3 ≤ 100000 by decide)))) (by decide +kernel)) fun _ => Ts.is (s_not (s_B (v_isP (y := "BadJournal") ex hx (by decide +kernel) (v_slot rfl)))) (by decide +kernel)) rfl) (fun z => nomatch z) fun _ H5 e5 => ?_
    have g5 := g3.trans (e4.trans e5)
    have e15 := (e2.trans e3).trans (e4.trans e5)
    exact S_ret (v_and (v_op (v_slot rfl) (v_slot rfl) (XE.bi_eqS (SqL.of (e15.lst hph)) (SqL.of (g5.lst hpl)) it.plain)) fun _ => v_isVE (v_slot rfl) ex hx) fun H6 e6 => q H6 (g5.trans e6)
theorem ok_Law (T : Top K mg) (TB : Tabs T base) : FnOk P w K mg base CX0 10 T.f_Law T.fd_Law ["_law_script"] (spLaw K T.ta_IsName) := by
  have GSeats := ok_Seats (P := P) (w := w) (base := base) T TB
  have GPatience := ok_Patience (P := P) (w := w) (base := base) T TB
  have GJournalF := ok_JournalF (P := P) (w := w) (base := base) T TB
  have GSpoilt := ok_Spoilt (P := P) (w := w) (base := base) T TB
  have GCell := ok_Cell (P := P) (w := w) (base := base) T TB
  have GRefuses := ok_Refuses (P := P) (w := w) (base := base) T TB
  have GGoneF := ok_GoneF (P := P) (w := w) (base := base) T TB
  have GJudged := ok_Judged (P := P) (w := w) (base := base) T TB
  have GToldF := ok_ToldF (P := P) (w := w) (base := base) T TB
  have GRefusedRows := ok_RefusedRows (P := P) (w := w) (base := base) T TB
  refine T.F_Law.ok scLaw (fun vs H Q E h => ?_) (fun cdv A outer s H vs Q E hr h => ?_)
  · obtain ⟨a, ns, rfl, hS, hT, hlen, q⟩ := h
    rfl
  · obtain ⟨a, ns, rfl, hS, hT, hlen, q⟩ := h
    refine ⟨_, (pss_cons (ps_set (i := 1) scLaw.nd rfl (Or.inl rfl) (pe_call GSeats (hr.mono (by decide)) (by rfl) T.g_Seats T.F_Seats.kp T.B_Seats .nil pass0 (pa_cons (pv 0) pa_nil)))
      (pss_cons (ps_set (i := 2) scLaw.nd rfl (Or.inl rfl) (pe_call GPatience (hr.mono (by decide)) (by rfl) T.g_Patience T.F_Patience.kp T.B_Patience .nil pass0 (pa_cons (pv 0) pa_nil)))
      (pss_cons (ps_set (i := 3) scLaw.nd rfl (Or.inl rfl) (pe_call GJournalF (hr.mono (by decide)) (by rfl) T.g_JournalF T.F_JournalF.kp T.B_JournalF .nil pass0 (pa_cons (pv 0) (pa_cons (pv 1) (pa_cons (pv 2) pa_nil)))))
      (pss_cons (ps_set (i := 3) scLaw.nd rfl (Or.inl rfl) (pe_call GSpoilt (hr.mono (by decide)) (by rfl) T.g_Spoilt T.F_Spoilt.kp T.B_Spoilt .nil pass0 (pa_cons (pv 3) (pa_cons (pe_op op_fdivN (pe_call GCell (hr.mono (by decide)) (by rfl) T.g_Cell T.F_Cell.kp T.B_Cell .nil pass0 (pa_cons (pv 0) (pa_cons pe_int pa_nil))) pe_int) (pa_cons (pe_op op_fdivN (pe_call GCell (hr.mono (by decide)) (by rfl) T.g_Cell T.F_Cell.kp T.B_Cell .nil pass0 (pa_cons (pv 0) (pa_cons pe_int pa_nil))) pe_int) pa_nil)))))
      (pss_cons (ps_if (pt_cmpR op_eq (pe_op op_modN (pe_op op_fdivN (pe_call GCell (hr.mono (by decide)) (by rfl) T.g_Cell T.F_Cell.kp T.B_Cell .nil pass0 (pa_cons (pv 0) (pa_cons pe_int pa_nil))) pe_int) pe_int) pe_int (nomark _))
      (pss_cons (ps_set (i := 4) scLaw.nd rfl (Or.inl rfl) (pe_ix ix_list (pe_lst (pa_cons pe_int (pa_cons pe_bl (pa_cons (pe_op op_add (pe_op op_pow pe_int pe_int) pe_int) (pa_cons pe_non pa_nil))))) (pe_op op_modN (pe_op op_fdivN (pe_call GCell (hr.mono (by decide)) (by rfl) T.g_Cell T.F_Cell.kp T.B_Cell .nil pass0 (pa_cons (pv 0) (pa_cons pe_int pa_nil))) pe_int) pe_int) (fun _ _ => rfl)))
      (pss_one (ps_ret (pe_and (pe_call GRefuses hr (by rfl) T.g_Refuses T.F_Refuses.kp T.B_Refuses .nil pass0 (pa_cons (pv 4) (pa_cons (pv 2) (pa_cons (pv 3) pa_nil)))) (pe_one (pe_call GRefuses hr (by rfl) T.g_Refuses T.F_Refuses.kp T.B_Refuses .nil pass0 (pa_cons (pv 1) (pa_cons (pe_ix ix_list (pe_lst (pa_cons (pe_un un_neg pe_int) (pa_cons pe_bl (pa_cons pe_str pa_nil)))) (pe_op op_modN (pv 1) pe_int) (fun _ _ => rfl)) (pa_cons (pv 3) pa_nil)))))))))
      pss_nil)
      (pss_cons (ps_set (i := 5) scLaw.nd rfl (Or.inl rfl) (pe_call GGoneF (hr.mono (by decide)) (by rfl) T.g_GoneF T.F_GoneF.kp T.B_GoneF .nil pass0 (pa_cons (pv 3) (pa_cons (pv 1) (pa_cons (pv 2) pa_nil)))))
      (pss_cons (ps_set (i := 6) scLaw.nd rfl (Or.inl rfl) (pe_callTy call_list_of (by rfl) T.m_list (by decide +kernel) (pa_cons (pv 3) pa_nil)))
      (pss_cons (ps_set (i := 7) scLaw.nd rfl (Or.inl rfl) (pe_call GJudged (hr.mono (by decide)) (by rfl) T.g_Judged T.F_Judged.kp T.B_Judged .nil RX.passN (pa_cons (pv 1) (pa_cons (pv 2) (pa_cons (pv 6) pa_nil)))))
      (pss_cons (ps_if (PW.pt (pw_or (pt_cmpR (XE.op_neX hr.units) (pv 6) (pv 3) (nomark _)) (pw_or1 (pt_not (pt_val (pe_call GToldF (hr.mono (by decide)) (by rfl) T.g_ToldF T.F_ToldF.kp T.B_ToldF .nil pass0 (pa_cons (pv 7) (pa_cons (pv 5) pa_nil))))))))
      (pss_one (ps_ret pe_bl))
      pss_nil)
      (pss_cons (ps_expr (pe_bm PySem.F.plainAttrs_list PySem.F.slot_list_append PySem.F.type_list_append mt_append (pv 6) (pa_cons (pe_tup (pa_cons pe_str (pa_cons pe_str pa_nil))) pa_nil)))
      (pss_cons (ps_if (pt_not (pt_val (pe_call GToldF (hr.mono (by decide)) (by rfl) T.g_ToldF T.F_ToldF.kp T.B_ToldF .nil pass0 (pa_cons (pe_call GJudged (hr.mono (by decide)) (by rfl) T.g_Judged T.F_Judged.kp T.B_Judged .nil RX.passN (pa_cons (pv 1) (pa_cons (pv 2) (pa_cons (pv 6) pa_nil)))) (pa_cons (pe_call GGoneF (hr.mono (by decide)) (by rfl) T.g_GoneF T.F_GoneF.kp T.B_GoneF .nil pass0 (pa_cons (pe_op op_cat (pv 3) (pe_lst (pa_cons (pe_tup (pa_cons pe_str (pa_cons pe_str pa_nil))) pa_nil))) (pa_cons (pv 1) (pa_cons (pv 2) pa_nil)))) pa_nil)))))
      (pss_one (ps_ret pe_bl))
      pss_nil)
      (pss_cons (ps_expr (pe_bm0 PySem.F.plainAttrs_list PySem.F.slot_list_pop PySem.F.type_list_pop mt_pop (pv 6)))
      (pss_cons (ps_if (pt_not (pt_val (pe_call GToldF (hr.mono (by decide)) (by rfl) T.g_ToldF T.F_ToldF.kp T.B_ToldF .nil pass0 (pa_cons (pe_call GJudged (hr.mono (by decide)) (by rfl) T.g_Judged T.F_Judged.kp T.B_Judged .nil RX.passN (pa_cons (pv 1) (pa_cons (pv 2) (pa_cons (pv 6) pa_nil)))) (pa_cons (pv 5) pa_nil)))))
      (pss_one (ps_ret pe_bl))
      pss_nil)
      (pss_one (ps_ret (pe_or (pe_cmpR op_isN (pv 5) pe_non (nomark _)) (pe_one (pe_call GRefusedRows hr (by rfl) T.g_RefusedRows T.F_RefusedRows.kp T.B_RefusedRows .nil pass0 (pa_cons (pv 1) (pa_cons (pv 2) (pa_cons (pv 3) pa_nil))))))))))))))))))))), ?_⟩
    refine slots (start_Law _) ?_
    have e9 : (10 : Int) ^ 9 = 1000000000 := by decide
    have bs := seatsOf_in ns
    have bp := patienceOf_in ns
    rw [e9] at bs bp
    have good : (numV 1 (.int (seatsOf ns)) && numV 0 (.int (patienceOf ns))) = true := by
      show ((decide (1 ≤ seatsOf ns) && decide (seatsOf ns ≤ 1000000000)) && (decide (0 ≤ patienceOf ns) && decide (patienceOf ns ≤ 1000000000))) = true
      rw [decide_eq_true bs.1, decide_eq_true bs.2, decide_eq_true bp.1, decide_eq_true bp.2]
      rfl
    refine B_set (v_call (g_cons (v_slot rfl) g_nil) (sv_bnd (least := 1) (f := seatsOf) hS)) fun H1 e1 => ?_
    walk_at "n"
    refine B_set (v_call (g_cons (v_slot rfl) g_nil) (sv_bnd (least := 0) (f := patienceOf) (e1.sl hS))) fun H2 e2 => ?_
    walk_at "n"
    have g2 := e1.trans e2
    refine B_setR (r_call (g_cons (v_slot rfl) (g_cons (v_slot rfl) (g_cons (v_slot rfl) g_nil))) fun Hx Qx Ex gx qx => ⟨a, ns, _, _, rfl, (g2.trans gx).sl hS, hlen, qx⟩) fun v H3 e3 ⟨pj, ys, rows, ev, hpj, tr, lr, okr⟩ => ?_
    subst ev
    walk_at "n"
    have g3 := g2.trans e3
    refine B_setR (r_call (g_cons (v_slot rfl) (g_cons (v_op (v_call (g_cons (v_slot rfl) (g_cons v_con g_nil)) (sv_cell 2 rfl (g3.sl hS))) v_con (bi_C (show CDivN (cellAt ns 2) 12 from ⟨by decide, by decide⟩))) (g_cons (v_op (v_call (g_cons (v_slot rfl) (g_cons v_con g_nil)) (sv_cell 3 rfl (g3.sl hS))) v_con (bi_C (show CDivN (cellAt ns 3) 33 from ⟨by decide, by decide⟩))) g_nil))) fun Hx Qx Ex gx qx => ⟨pj, _, _, ys, rows, rfl, gx.lst hpj, tr.mono gx, okr, lr, qx⟩) fun v H4 e4 ⟨pl, xs, ev, hpl, ⟨l, it⟩, lx⟩ => ?_
    subst ev
    walk_at "n"
    have g4 := g3.trans e4
    have ll := it.length
    refine B_when (s_test (v_op (v_op (v_op (v_call (g_cons (v_slot rfl) (g_cons v_con g_nil)) (sv_cell 1 rfl (g4.sl hS))) v_con (bi_C (show CDivN (cellAt ns 1) 54 from ⟨by decide, by decide⟩))) v_con (bi_C (show (9 : Int) ≠ 0 by decide))) v_con (bi_eq rfl))) (fun _ H5 e5 => ?_) fun _ H5 e5 => ?_
    · -- no number
      have g5 := g4.trans e5
      have b4 := fmod_in ((cellAt ns 4).fdiv 40) (m := 4) (by decide)
      obtain ⟨j, u, hu, au⟩ := atI_ex (xs := ([.int 0, .bl true, .int (10 ^ 9 + 1), .non] : List V)) (i := ((cellAt ns 4).fdiv 40).fmod 4) (by show -(4 : Int) ≤ _; omega) (by show _ < (4 : Int); omega)
      have bu : ∀ H', Num3 K u H' ∧ numV 1 u = false := fun H' => by
        have mu := List.mem_of_getElem? hu
        simp only [List.mem_cons, List.not_mem_nil, or_false] at mu
        rcases mu with rfl | rfl | rfl | rfl
        · exact ⟨.inl ⟨_, rfl⟩, by decide⟩
        · exact ⟨.inr (.inl ⟨_, rfl⟩), rfl⟩
        · exact ⟨.inl ⟨_, rfl⟩, by decide⟩
        · exact ⟨.inr (.inr ⟨⟨_, .base .non, kit_ty (by decide +kernel)⟩, fun _ z => nomatch z⟩), rfl⟩
      refine B_set (v_opL (l_lst (vs := [.int 0, .bl true, .int (10 ^ 9 + 1), .non]) (g_cons v_con (g_cons v_con (g_cons (v_op (v_op v_con v_con (bi_C (show CPow 10 9 from ⟨by decide, by decide, by decide⟩))) v_con bi_0) (g_cons v_con g_nil)))) (show 4 ≤ 100000 by decide)) (fun H6 g6 => v_op (v_op (v_call (g_cons (v_slot rfl) (g_cons v_con g_nil)) (sv_cell 4 rfl ((g5.trans g6).sl hS))) v_con (bi_C (show CDivN (cellAt ns 4) 40 from ⟨by decide, by decide⟩))) v_con (bi_C (show (4 : Int) ≠ 0 by decide))) fun p H6 hp g6 => bi_ixL (SqL.of hp) au) fun H6 e6 => ?_
      walk_at "n"
      have g6 := g5.trans e6
      have b3 := fmod_in (seatsOf ns) (m := 3) (by decide)
      obtain ⟨j2, u2, hu2, au2⟩ := atI_ex (xs := ([.int (-1), .bl false, .str "1"] : List V)) (i := (seatsOf ns).fmod 3) (by show -(3 : Int) ≤ _; omega) (by show _ < (3 : Int); omega)
      have bu2 : ∀ H', Num3 K u2 H' ∧ numV 0 u2 = false := fun H' => by
        have mu := List.mem_of_getElem? hu2
        simp only [List.mem_cons, List.not_mem_nil, or_false] at mu
        rcases mu with rfl | rfl | rfl
        · exact ⟨.inl ⟨_, rfl⟩, by decide⟩
        · exact ⟨.inr (.inl ⟨_, rfl⟩), rfl⟩
        · exact ⟨.inr (.inr ⟨⟨_, .base (.str _), kit_ty (by decide +kernel)⟩, fun _ z => nomatch z⟩), rfl⟩
      exact S_ret (v_and (v_call (g_cons (v_slot rfl) (g_cons (v_slot rfl) (g_cons (v_slot rfl) g_nil))) fun Hx Qx Ex gx qx => ⟨u, _, pl, xs, l, rfl, (g6.trans gx).tab hT, (bu _).1, .inl ⟨_, rfl⟩, by rw [(bu Hx).2]; rfl, (e5.trans (e6.trans gx)).lst hpl, it.mono (e5.trans (e6.trans gx)), by omega, qx⟩) fun _ => v_call (g_cons (v_slot rfl) (g_cons (v_opL (l_lst (vs := [.int (-1), .bl false, .str "1"]) (g_cons (v_neg v_con) (g_cons v_con (g_cons v_con g_nil))) (show 3 ≤ 100000 by decide)) (fun H7 g7 => v_op (v_slot rfl) v_con (bi_C (show (3 : Int) ≠ 0 by decide))) fun p H7 hp g7 => bi_ixL (SqL.of hp) au2) (g_cons (v_slot rfl) g_nil))) fun Hx Qx Ex gx qx => ⟨_, u2, pl, xs, l, rfl, (g6.trans gx).tab hT, .inl ⟨_, rfl⟩, (bu2 _).1, by rw [(bu2 Hx).2, Bool.and_false], (e5.trans (e6.trans gx)).lst hpl, it.mono (e5.trans (e6.trans gx)), by omega, qx⟩) fun H7 e7 => q H7
    have g5 := g4.trans e5
    have hpl5 := e5.lst hpl
    have it5 := it.mono e5
    have jd : ∀ {H' : Hp} {ph : Addr} {zs : List V} {m : List (Option JRow)}, Gr H5 H' → H' ph = some (.lst zs) → ItemsAt K H' zs m → m.length ≤ 5000 → SpV (spJudged K T.ta_IsName) [.int (seatsOf ns), .int (patienceOf ns), .ref ph] H' (natV (gone (seatsOf ns) (patienceOf ns) Now.none m 0)) := fun g h i n Hx Qx Ex gx qx => ⟨_, _, _, _, _, rfl, (g5.trans (g.trans gx)).tab hT, .inl ⟨_, rfl⟩, .inl ⟨_, rfl⟩, gx.lst h, (i.mono gx).rows, n, (fun z => by rw [good] at z; cases z), fun s p es ep nn => by cases es; cases ep; exact qx⟩
    refine B_set (v_call (g_cons (v_slot rfl) (g_cons (v_slot rfl) (g_cons (v_slot rfl) g_nil))) fun Hx Qx Ex gx qx => ⟨pl, xs, l, _, _, rfl, gx.lst hpl5, it5.mono gx, by omega, qx⟩) fun H6 e6 => ?_
    walk_at "n"
    refine B_setL (l_list (v_slot rfl) (SqL.of (e6.lst hpl5))) fun ph H7 nph e7 hph => ?_
    walk_at "n"
    have g57 := e6.trans e7
    refine B_set (v_call (g_cons (v_slot rfl) (g_cons (v_slot rfl) (g_cons (v_slot rfl) g_nil))) (jd g57 hph (it5.mono g57) (by omega))) fun H8 e8 => ?_
    walk_at "n"
    have g58 := g57.trans e8
    refine B_when (b := false) (Ts.is (s_or (b := false) (c := false) (s_test (v_op (v_slot rfl) (v_slot rfl) (XE.bi_neS (SqL.of (e8.lst hph)) (SqL.of (g58.lst hpl5)) it.plain))) fun _ => Ts.is (s_not (s_B (v_call (g_cons (v_slot rfl) (g_cons (v_slot rfl) g_nil)) sv_toldf))) rfl) rfl) (fun z => nomatch z) fun _ H9 e9 => ?_
    have hph9 := (e8.trans e9).lst hph
    refine B_appU hph9 (v_slot rfl) (u_tup (g_cons v_con (g_cons v_con g_nil)) (show 2 ≤ 100000 by decide)) (by omega) fun t H10 nt e10 ht => ?_
    have hph10 := e10.lst hph9
    have n6 : H6 ph = none := nph
    have g6b : Gr H6 H10 := e7.trans (e8.trans (e9.trans e10))
    have g611 : Gr H6 (upd H10 ph (.lst (xs ++ [.ref t]))) := g6b.chg n6
    have ht11 : (upd H10 ph (.lst (xs ++ [.ref t]))) t = some (.tup (JRow.vs ["left", "a"])) := (upd_ne fun z => by rw [z, hph10] at ht; cases ht).trans ht
    have hph11 : (upd H10 ph (.lst (xs ++ [.ref t]))) ph = some (.lst (xs ++ [.ref t])) := upd_same
    generalize upd H10 ph (.lst (xs ++ [.ref t])) = H11 at g611 ht11 hph11 ⊢
    have okla : JRow.ok ["left", "a"] := ⟨"left", "a", by decide +kernel, .inr ⟨.inl rfl, rfl⟩⟩
    have g511 := e6.trans g611
    have it11 : ItemsAt K H11 (xs ++ [.ref t]) (l ++ ([some (["left", "a"] : JRow)] : List (Option JRow))) := (it5.mono g511).app (.cons (.of ht11 okla) .nil)
    have ll11 : (l ++ [some (["left", "a"] : JRow)]).length ≤ 5000 := by rw [List.length_append, List.length_singleton]; omega
    refine B_when (b := false) (Ts.is (s_not (b := true) (s_B (v_call (g_cons (v_call (g_cons (v_slot rfl) (g_cons (v_slot rfl) (g_cons (v_slot rfl) g_nil))) (jd g511 hph11 it11 ll11)) (g_cons (v_callR (R := fun v H1 => ∃ p2 t2, v = .ref p2 ∧ H1 p2 = some (.lst (xs ++ [.ref t2])) ∧ H1 t2 = some (.tup (JRow.vs ["left", "a"]))) (Vr.weak (r_catU (v_slot rfl) (g511.lst hpl5) (u_tup (g_cons v_con (g_cons v_con g_nil)) (show 2 ≤ 100000 by decide)) (by omega)) fun v H1 ⟨p2, t2, b1, _, b2, b3⟩ => ⟨p2, t2, b1, b2, b3⟩) (fun g ⟨p2, t2, b1, b2, b3⟩ => ⟨p2, t2, b1, g.lst b2, g.tup b3⟩) (g_cons (v_slot rfl) (g_cons (v_slot rfl) g_nil)) fun v Hx gx ⟨p2, t2, b1, b2, b3⟩ => ?gn) g_nil)) sv_toldf))) rfl) (fun z => nomatch z) fun _ H12 e12 => ?_
    case gn =>
      subst b1
      exact fun Hy Qy Ey gy qy => ⟨p2, _, l ++ ([some (["left", "a"] : JRow)] : List (Option JRow)), _, _, rfl, gy.lst b2, (it5.mono (g511.trans (gx.trans gy))).app (.cons (.of (gy.tup b3) okla) .nil), ll11, qy⟩
    refine B_pop (v_slot rfl) (e12.lst hph11) fun H13 e13 => ?_
    have g613 : Gr H6 (upd H13 ph (.lst xs)) := (g611.trans (e12.trans e13)).chg n6
    have hph14 : (upd H13 ph (.lst xs)) ph = some (.lst xs) := upd_same
    generalize upd H13 ph (.lst xs) = H14 at g613 hph14 ⊢
    have g514 := e6.trans g613
    refine B_when (b := false) (Ts.is (s_not (b := true) (s_B (v_call (g_cons (v_call (g_cons (v_slot rfl) (g_cons (v_slot rfl) (g_cons (v_slot rfl) g_nil))) (jd g514 hph14 (it5.mono g514) (by omega))) (g_cons (v_slot rfl) g_nil)) sv_toldf))) rfl) (fun z => nomatch z) fun _ H15 e15 => ?_
    have g515 := g514.trans e15
    cases hg : gone (seatsOf ns) (patienceOf ns) Now.none l 0 with
    | none => exact S_ret (v_or (b := true) (c := true) (Vl.is (v_op (v_slot rfl) v_con bi_isN) rfl) fun z => nomatch z) fun H16 e16 => q H16
    | some k => exact S_ret (v_or (b := false) (c := true) (Vl.is (v_op (v_slot rfl) v_con bi_isN) rfl) fun _ => v_call (g_cons (v_slot rfl) (g_cons (v_slot rfl) (g_cons (v_slot rfl) g_nil))) fun Hx Qx Ex gx qx => ⟨_, _, pl, xs, l, k, rfl, (g5.trans (g515.trans gx)).tab hT, good, (g515.trans gx).lst hpl5, it5.mono (g515.trans gx), by omega, hg, qx⟩) fun H16 e16 => q H16

end
end RR
open PySem PySem.W PySem.Calls PyProof.Rows in
set_option maxHeartbeats 0 in
theorem PySem.Challenge.cw_readwriteroom_k13_whole_judged_holds : PySem.Challenge.rw_readwriteroom_k13_whole_judged.Holds := by
  w_on; o_law
  refine HandSHeadRun.head_any (r := RR.Rw) (q := view (RR.Rw).prog [74]) (H := RR.hk) (ob := RR.ob) (M := 30000) (loose := RR.loose) (d := HandSHeadRun.topDef (RR.Rw).prog 74) (kwd := []) RR.ob_is
    (by kernel_rfl) (fun s => by kernel_rfl) RR.run (by kernel_rfl) (by kernel_rfl) (by kernel_rfl) (by rfl) (by first | assumption | decide +kernel) (by decide +kernel) ⟨rfl, rfl, rfl, rfl, rfl, by decide +kernel⟩ ?hw ?hc
  case hw => w_witness2
  case hc =>
    refine LamX.walk_ofTsE (l := PySem.Challenge.rw_readwriteroom_k13_whole_judged) (n := 63) (k := 10) (x := "_law_script") (CX := fun _ => L2.CX0) rfl (by decide) (by kernel_rfl) ⟨rfl, by decide, by decide⟩ ?F (fun _ _ _ _ _ z => z)
    intro w mg fa h Y G hmg0
    obtain ⟨K, KX, c⟩ := Y
    have hmg : mg ("law" : PySem.Str) = some (.ref fa) := by
      have e : (HandSHeadRun.topDef (RR.Rw).prog 74).name = ("law" : PySem.Str) := by kernel_rfl
      rw [← e]
      exact hmg0
    obtain ⟨T, rfl, hb, eIsName⟩ := RR.facts (P := (PySem.Challenge.rw_readwriteroom_k13_whole_judged).prog) (w := w) KX G hmg c
    have mem : ∀ p ∈ ([(T.co_IsName, T.ta_IsName)] : List (Addr × Addr)), ∃ z ∈ RR.tfs, p = He.cT K z := by
      intro p hp
      simp only [List.mem_cons, List.not_mem_nil, or_false] at hp
      exact ⟨("is_name", none), by simp [RR.tfs], by rw [hp]; exact eIsName⟩
    refine ⟨K, KX, T.fd_Law, [(T.co_IsName, T.ta_IsName)], RR.spLaw K T.ta_IsName, fun p hp => ?_, fun p hp => ?_, fun p hp => ?_, hb, fun H a ns hl _ hT hS => ?_, fun base _ _ TB => ?_⟩
    · obtain ⟨z, hz, rfl⟩ := mem p hp
      exact c.empty z hz
    · obtain ⟨z, hz, rfl⟩ := mem p hp
      exact c.out z hz
    · obtain ⟨z, hz, rfl⟩ := mem p hp
      exact codeHd_of_K KX (c.hd z hz)
    · exact RR.law_pre T H a ns hl hS (fun p hp => ⟨#[], hT p hp, trivial⟩)
    · exact RR.ok_Law T ⟨RR.tab_is (TB (T.co_IsName, T.ta_IsName) (by simp))⟩

