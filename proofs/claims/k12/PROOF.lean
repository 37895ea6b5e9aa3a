

import PyProof.Rows.All
import Wide.All
import OpenK.AllK
import Wide.FinOn
import KE.KStateDown
import KE.GoesRaise
import HandS.TupAny
import HandS.ForMost
import HandS.More
import HandS.Flow
import HandS.IsInst
import HandS.AnyAll
import HandS.Steps
import HandS.Walk
import HandS.Evl
import HandS.ExcOwn
import HandS.ExcCtx
import HandS.ExcIs
import HandS.HotCalls
import HandS.WordsExc
import HandS.Head0
import HandS.Head1
import HandS.Head2
import HandS.HeadEnd
import HandS.HeadHook1
import HandS.HeadHook2
import HandS.HeadHook4
import HandS.HeadWalk
import PyProof.Rows.SortShellAny
import PySem.Challenge.RW_readwriteroom_k12_texts_refused
set_option Elab.async false
set_option linter.all false
set_option maxHeartbeats 8000000
set_option maxRecDepth 100000

/-! ### all(test for x in text), the test over the sign and the module's names -/
namespace RG
open PySem PySem.Spec PyProof.Rows L2
/-- the test of one sign: it may read the sign's name and the module's names -/
def Elt (P : Program) (w : World) (mg : Str → Option Value) (scope : Scope) (x : Str) (elt : Expr) (pb : Nat → Bool) : Prop :=
  ∀ (ev : Env) (A : Around) (E : Value → Shared → Prop) (k : Nat) (t : Tok) (s : Shared) (m : Str → Option Value), ev.scope = scope → ev.globals = mainGlobals → s.heap.Ns mainGlobals mg → s.heap.Ns ev.locals m → m x = some (.str ⟨#[k]⟩ t) →
    wpAny (model P w) A (eval elt ev) (fun y s' => y = .bool (pb k) ∧ Keeps s s') E s
/-- x in NAME, NAME a text of the module -/
theorem elt_in {P : Program} {w : World} {mg : Str → Option Value} {scope : Scope} {x N z : Str} {tk : Tok} {p1 p2 p3 : Pos} (kd : scope.kind = .function) (lx : scope.names.lookup x = some .local) (lN : scope.names.lookup N = some .globalImplicit) (hN : mg N = some (.str z tk))
    (d1 : (x == ("__debug__" : Str)) = false := by decide) (d2 : (N == ("__debug__" : Str)) = false := by decide) : Elt P w mg scope x (.Compare (.Name x p1) [.In] [.Name N p2] p3) (fun k => decide (k ∈ z.cps.toList)) := by
  intro ev A E k t s m hs hg hG hL hx
  subst hs
  refine wpAny_Compare1 (wpAny_Name (wpAny_loadName_local kd lx hL hx ?_) d1) (by rfl)
  have hG' : s.heap.Ns ev.globals mg := by
    rw [hg]
    exact hG
  refine Calls.Name_function_global kd lN (Calls.loadGlobal_global hG' hN (PyProof.Rows.in_str ⟨?_, s.heap, s.toks, rfl, fun _ _ e => e⟩)) d2
  rw [PySem.StrLaws.found_one z k]
theorem nofree {l : List (Str × NameKind)} {R : Str × NameKind → Prop} (h : (l.all fun y => decide (y.2 ≠ .free)) = true) : ∀ y ∈ l, y.2 = .free → R y := fun y hy e => absurd e (of_decide_eq_true (List.all_eq_true.mp h y hy))
section
variable {X : Cx} {pins : List (Addr × Obj)} {σ : L2.St} {H : Hp} {s : Shared} {c P : Addr} {scope : Scope} {x : Str} {elt : Expr} {pb : Nat → Bool}
/-- the code object of the generator is found in the table, or made and entered -/
theorem code_of {M : Model} {A : Around} {E : Value → Shared → Prop} {r : Shared} {ev : Env} {gp : Pos} {qn : Str} {ps : Array Value} {Q : Value → Shared → Prop} (hc : ev.code = .ref c) (hd : PySem.W.CodeHd r.heap c P) (hP : r.heap.get? P = some (PySem.W.tabObj ps)) (ok : TriplesOk ps.toList)
    (h : ∀ cd h' tk more, Heap.ExtBut P r.heap h' → r.heap.objs.size ≤ h'.objs.size → h'.get? P = some (PySem.W.tabObj (ps ++ more)) → TriplesOk (ps ++ more).toList → Q cd { r with heap := h', toks := tk }) : wpAny M A (genexprCode ev gp qn scope) Q E r := by
  cases hf : codeAmong gp ps.toList with
  | some cd =>
    have e : ps ++ #[] = ps := by simp
    refine wpAny_genexprCode_hit hc (hd.code hP ok) hf ?_
    exact h cd r.heap r.toks #[] (.refl _ _) (Nat.le_refl _) (by rw [e]; exact hP) (by rw [e]; exact ok)
  | none =>
    refine wpAny_genexprCodeX hc (hd.code hP ok) (hd.tab hP) hf ?_
    intro c1 h1 t1 ext ge lt co _ ta _
    obtain ⟨_, _, _, _, _, _, _, _, _, _, _, _, _, _, _, _, _, _, _, tr, _⟩ := co
    exact h _ h1 t1 _ ext (Nat.le_trans ge (Nat.le_of_lt lt)) ta.2 tr
theorem in_range {h : Heap} {b : Addr} {u : Obj} (e : h.get? b = some u) : b ∈ List.range h.objs.size := List.mem_range.mpr (Heap.lt_size e)
theorem pe_allG {iter : Expr} {px p pos gp : Pos} {te : TE} {k : Nat} (hr : Room k X.A) (gA : Gl X "all") (mA : X.mg "all" = none) (TB : GxR.TabB X.base X.mg c P) (hc : X.env.code = .ref c) (S : GxR.GenS X.env scope x) (hi : PE X iter te) (hel : Elt X.prog X.w X.mg scope x elt pb)
    (hs : ∀ v, genFold iter X.env v = pure v)
    (he : starEach [.GeneratorExp elt [⟨.Name x px, iter, [], 0⟩] scope gp] X.env = [(false, eval (.GeneratorExp elt [⟨.Name x px, iter, [], 0⟩] scope gp) X.env)] := by rfl) :
    PE X (.Call (.Name "all" p) [.GeneratorExp elt [⟨.Name x px, iter, [], 0⟩] scope gp] [] pos) (GxR.tAllS P pb te) := by
  constructor
  intro pins s σ H Q I h
  have bA : bootBuiltins "all" = some (.builtin "all") := PyProof.Rows.boot_all
  refine wpAny_Call_Name_kw (ld_blt I gA mA bA (PyProof.Rows.callWith_builtin1 ?_ he (by rfl)))
  rw [he]
  refine Calls.spliced_cons ?_
  refine wpAny_GeneratorExp_walksQ hr.hd S.co (closure_ok S.free) S.cell S.dot S.loc S.kind (by have := hr.dp; omega) (thn (hi.run pins s σ H _ I h) ?_) hs
  rintro xv sa ⟨v, Ha, Ia, rv, a, rfl, ⟨ps, tP, ok⟩, q⟩
  obtain ⟨ta, rfl⟩ := rv
  refine wpAny_pyIter_str ?_
  intro io St W st0
  -- the heap with the text's iterator
  have gP : sa.heap.get? P = some (PySem.W.tabObj ps) := Ia.hok P _ tP
  have up : ∀ b u, sa.heap.get? b = some u → (sa.heap.push io).get? b = some u := fun b u e => Heap.get?_push_of_some _ e
  have nl : (sa.heap.push io).NoLimit := Ia.nolimit.push io
  have szp : (sa.heap.push io).objs.size = sa.heap.objs.size + 1 := Heap.size_push ..
  refine ⟨nl, code_of hc (TB.code.keeps fun b u e => up b u (Ia.bk b u e)) (up _ _ gP) ok ?_⟩
  intro cd h3 tk more ext ge gP3 ok3
  have ge2 : sa.heap.objs.size + 1 ≤ h3.objs.size := by
    rw [← szp]
    exact ge
  have kp : ∀ b u, b ≠ P → sa.heap.get? b = some u → h3.get? b = some u := fun b u n e => ext b u n (up b u e)
  have PltA : P < sa.heap.objs.size := Heap.lt_size gP
  have nsG : h3.Ns mainGlobals X.mg := ((Ia.mod.glob.keeps Ia.bk).push io).extBut ext TB.gP
  have csP : cStatics ≠ P := by
    intro e
    obtain ⟨_, ⟨o', _, _, ho, hdd, _⟩, _⟩ := Ia.nolimit
    rw [e, gP] at ho
    cases ho
    cases hdd
  have csA : cStatics < sa.heap.objs.size := let ⟨_, hns, _⟩ := Ia.nolimit; hns.lt
  have itP : sa.heap.objs.size ≠ P := fun e => absurd PltA (by rw [e]; exact Nat.lt_irrefl _)
  obtain ⟨bm, ob, b1, b2, b3, b4, b5, b6, b7, b8⟩ := TB.bm
  refine wpAny_builtinsFor (m := X.mg) (by rw [Ia.ok.glob]; exact nsG) b1 b2 (kp _ _ b4 (Ia.bk _ _ b5)) b6 b7 b8 ?_
  refine ⟨sa.heap.objs.size, [sa.heap.objs.size], [sa.heap.objs.size], a.cps.size, SignAt a, St, fun _ => true, fun j y => ∃ k, a.cps[j]? = some k ∧ y = .bool (pb k), rfl, W, ?_, ?_, nl.extBut ext csP, ?_, ?_, ?_⟩
  · refine (W X.A hr.hd).frame _ _ _ st0 fun b hb u e => ext b u ?_ e
    rw [List.mem_singleton.mp hb]
    exact itP
  · intro b hb
    rw [List.mem_singleton.mp hb]
    exact ge2
  · intro hm
    exact Nat.ne_of_lt csA (List.mem_singleton.mp hm)
  · intro hh kh
    constructor
    · intros
      simp only [List.forIn_nil]
      exact wpAny_pure ⟨rfl, GxR.keeps_refl _⟩
    · rintro A' E' j v s2 m2 hA ⟨k, u, hk, rfl⟩ _ hn hm keep
      have G2 : s2.heap.Ns mainGlobals X.mg := by
        obtain ⟨og, es, ep, hog, r⟩ := nsG
        refine ⟨og, es, ep, keep _ (in_range hog) ?_ _ (kh _ _ hog), r⟩
        intro hm2
        have e2 := List.mem_singleton.mp hm2
        obtain ⟨o9, _, _, h9, _⟩ := Ia.mod.glob.keeps Ia.bk
        have := Heap.lt_size h9
        rw [e2] at this
        exact Nat.lt_irrefl _ this
      refine wpAny_mono (hel _ A' E' k u s2 m2 rfl Ia.ok.glob G2 hn hm) ?_ fun _ _ z => z
      rintro y s3 ⟨e, kk⟩
      exact ⟨⟨k, hk, e⟩, kk⟩
  · intro g h5 t5 gs bare _ _ k5 W5 hat
    rw [GxR.passing_true] at W5
    simp only [List.length_range] at W5
    refine Calls.spliced_nil (call_all_walkS (W5.in4_1.self 0 _ _ _ hat ⟨g, _, _, _, _, _, _, GxR.trF pb a.cps.toList, rfl, W5.in4_1, hat, ?_, ?_⟩))
    · rintro j y sj Qj Ej ⟨i, hij, k, hk, rfl⟩ hq
      obtain ⟨hj, ej⟩ := List.getElem?_eq_some_iff.mp hij
      rw [List.getElem_range] at ej
      subst ej
      rw [GxR.trF_some (b := k) (by rw [Array.getElem?_toList]; exact hk)] at hq
      exact wpAny_truthy_bool hq
    · intro s' mv
      have away : ∀ b u, sa.heap.get? b = some u → b ∉ [h3.objs.size, sa.heap.objs.size] := by
        intro b u e hm
        have l := Heap.lt_size e
        rcases List.mem_cons.mp hm with z | z
        · rw [z] at l
          exact absurd (Nat.lt_of_lt_of_le l (Nat.le_of_succ_le ge2)) (Nat.lt_irrefl _)
        · rw [List.mem_singleton.mp z] at l
          exact Nat.lt_irrefl _ l
      have J := GxR.inv_tab (more := more) (h' := s'.heap) (g' := s'.gens) (d' := s'.drawn) (t' := s'.toks) Ia tP (fun b u n e => mv.heap b u (away b u e) (k5 b u (kp b u n e))) (mv.heap P _ (away P _ gP) (k5 P _ gP3)) (AllBare.movedS (Ia.bare.push bare) mv)
      rw [GxR.sh_eta sa s' mv.os] at J
      refine ⟨.bl _, _, J, rfl, ?_⟩
      rw [GxR.all_signs a pb]
      exact q _ ⟨⟨_, upd_same, ok3⟩, fun b n => upd_ne n⟩
end
end RG

namespace RR
open PySem L2

/-! ### heaps: what is known stays; the tables of code objects may grow -/
def Gr (H H' : Hp) : Prop := ∀ a o, H a = some o → H' a = some o ∨ ∃ ps qs, o = HO.tbl ps ∧ H' a = some (.tbl qs) ∧ (TriplesOk ps.toList → TriplesOk qs.toList)
namespace Gr
theorem refl (H : Hp) : Gr H H := fun _ _ h => .inl h
theorem trans {H H1 H2 : Hp} (x : Gr H H1) (y : Gr H1 H2) : Gr H H2 := by
  intro a o h
  rcases x a o h with h1 | ⟨ps, qs, rfl, h1, t1⟩
  · exact y a o h1
  · rcases y a _ h1 with h2 | ⟨ps', qs', e, h2, t2⟩
    · exact .inr ⟨ps, qs, rfl, h2, t1⟩
    · cases e
      exact .inr ⟨ps, qs', rfl, h2, fun t => t2 (t1 t)⟩
theorem new {H : Hp} {p : Addr} {o : HO} (hp : H p = none) : Gr H (upd H p o) := fun a u h => .inl ((upd_ne (ne_of_none h hp)).trans h)
theorem chg {H H' : Hp} {p : Addr} {o : HO} (x : Gr H H') (hp : H p = none) : Gr H (upd H' p o) := by
  intro a u h
  have n : a ≠ p := ne_of_none h hp
  rcases x a u h with h1 | ⟨ps, qs, e, h1, t1⟩
  · exact .inl ((upd_ne n).trans h1)
  · exact .inr ⟨ps, qs, e, (upd_ne n).trans h1, t1⟩
theorem at_ {H H' : Hp} {a : Addr} {o : HO} (x : Gr H H') (h : H a = some o) (n : ∀ ps, o ≠ .tbl ps) : H' a = some o := by
  rcases x a o h with h1 | ⟨ps, _, e, _⟩
  · exact h1
  · exact absurd e (n ps)
theorem lst {H H' : Hp} {a : Addr} {xs : List V} (x : Gr H H') (h : H a = some (.lst xs)) : H' a = some (.lst xs) := x.at_ h fun _ e => by cases e
theorem tup {H H' : Hp} {a : Addr} {xs : List V} (x : Gr H H') (h : H a = some (.tup xs)) : H' a = some (.tup xs) := x.at_ h fun _ e => by cases e
theorem ins {H H' : Hp} {a C d : Addr} {fs : List (Str × V)} (x : Gr H H') (h : H a = some (.ins C d fs)) : H' a = some (.ins C d fs) := x.at_ h fun _ e => by cases e
theorem free {H H' : Hp} {p : Addr} (x : Gr H H') (h : H' p = none) : H p = none := by
  cases q : H p with
  | none => rfl
  | some o =>
    rcases x p o q with h1 | ⟨_, _, _, h1, _⟩ <;> (rw [h] at h1; cases h1)
theorem rd {H H' : Hp} {a : Addr} {u : HO} (x : Gr H H') (h : Rd H a u) (n : ∀ ps, u ≠ .tbl ps) : Rd H' a u := by
  rcases h with h | ⟨o, h⟩
  · exact .inl (x.at_ h n)
  · exact .inr ⟨o, x.at_ h fun _ e => by cases e⟩
theorem sl {K : PySem.W.Frag} {H H' : Hp} {a : Addr} {xs : List V} (x : Gr H H') (h : SqL K H a xs) : SqL K H' a xs := by
  rcases h with h | h
  · exact .inl (x.rd h fun _ e => by cases e)
  · exact .inr h
theorem st {K : PySem.W.Frag} {H H' : Hp} {a : Addr} {xs : List V} (x : Gr H H') (h : SqT K H a xs) : SqT K H' a xs := by
  rcases h with h | h
  · exact .inl (x.rd h fun _ e => by cases e)
  · exact .inr h
theorem tab {H H' : Hp} {P : Addr} (x : Gr H H') (h : GxR.TabG H P) : GxR.TabG H' P := by
  obtain ⟨ps, h, t⟩ := h
  rcases x P _ h with h1 | ⟨ps', qs, e, h1, t1⟩
  · exact ⟨ps, h1, t⟩
  · cases e
    exact ⟨qs, h1, t1 t⟩
theorem ofTab {H H' : Hp} {P : Addr} (h : GxR.TabG H P) (g : GxR.Tabbed P H H') : Gr H H' := by
  obtain ⟨⟨qs, h1, t1⟩, oth⟩ := g
  intro a o ha
  by_cases e : a = P
  · subst e
    obtain ⟨ps, h0, t0⟩ := h
    rw [h0] at ha
    cases ha
    exact .inr ⟨ps, qs, rfl, h1, fun _ => t1⟩
  · exact .inl ((oth a e).trans ha)
end Gr
mutual
theorem Gr.dp {K : PySem.W.Frag} {H H' : Hp} (x : Gr H H') : ∀ {v : V} {d : PyData}, Dp K H v d → Dp K H' v d
  | _, _, .non => .non
  | _, _, .bl b => .bl b
  | _, _, .int i => .int i
  | _, _, .str z => .str z
  | _, _, .lst s h => .lst (x.sl s) (Gr.dps x h)
  | _, _, .tup s h => .tup (x.st s) (Gr.dps x h)
theorem Gr.dps {K : PySem.W.Frag} {H H' : Hp} (x : Gr H H') : ∀ {vs : List V} {ds : List PyData}, DpAll K H vs ds → DpAll K H' vs ds
  | _, _, .nil => .nil
  | _, _, .cons h t => .cons (Gr.dp x h) (Gr.dps x t)
end

/-! ### what a reading gives, whatever grew meanwhile -/
def Vl (te : TE) (σ : L2.St) (H : Hp) (v : V) : Prop := ∀ (H1 : Hp) (Q : VK), Gr H H1 → (∀ H2, Gr H1 H2 → Q v H2) → te σ H1 Q
def Ls (te : TE) (σ : L2.St) (H : Hp) (xs : List V) : Prop := ∀ (H1 : Hp) (Q : VK), Gr H H1 → (∀ p H2, H1 p = none → Gr H1 H2 → H2 p = some (.lst xs) → Q (.ref p) H2) → te σ H1 Q
def Tu (te : TE) (σ : L2.St) (H : Hp) (xs : List V) : Prop := ∀ (H1 : Hp) (Q : VK), Gr H H1 → (∀ p H2, H1 p = none → Gr H1 H2 → H2 p = some (.tup xs) → Q (.ref p) H2) → te σ H1 Q
def Ts (tt : TT) (σ : L2.St) (H : Hp) (b : Bool) : Prop := ∀ (H1 : Hp) (Q : Bool → Hp → Prop), Gr H H1 → (∀ H2, Gr H1 H2 → Q b H2) → tt σ H1 Q
def Ag (ta : TA) (σ : L2.St) (H : Hp) (vs : List V) : Prop := ∀ (H1 : Hp) (Q : List V → Hp → Prop), Gr H H1 → (∀ H2, Gr H1 H2 → Q vs H2) → ta σ H1 Q
/-- any value of which R holds (data, say) -/
def Vr (te : TE) (σ : L2.St) (H : Hp) (R : V → Hp → Prop) : Prop := ∀ (H1 : Hp) (Q : VK), Gr H H1 → (∀ v H2, Gr H1 H2 → R v H2 → Q v H2) → te σ H1 Q
def Ar (ta : TA) (σ : L2.St) (H : Hp) (R : List V → Hp → Prop) : Prop := ∀ (H1 : Hp) (Q : List V → Hp → Prop), Gr H H1 → (∀ vs H2, Gr H1 H2 → R vs H2 → Q vs H2) → ta σ H1 Q
def Bi (r : R2) (x y : V) (H : Hp) (z : V) : Prop := ∀ (H1 : Hp) (Q : VK), Gr H H1 → (∀ H2, Gr H1 H2 → Q z H2) → r x y H1 Q
def SpV (sp : Sp) (vs : List V) (H : Hp) (z : V) : Prop := ∀ (H1 : Hp) (Q : VK) (E : XK), Gr H H1 → (∀ H2, Gr H1 H2 → Q z H2) → sp vs H1 Q E
def SpL (sp : Sp) (vs : List V) (H : Hp) (xs : List V) : Prop := ∀ (H1 : Hp) (Q : VK) (E : XK), Gr H H1 → (∀ p H2, H1 p = none → Gr H1 H2 → H2 p = some (.lst xs) → Q (.ref p) H2) → sp vs H1 Q E
def SpR (sp : Sp) (vs : List V) (H : Hp) (R : V → Hp → Prop) : Prop := ∀ (H1 : Hp) (Q : VK) (E : XK), Gr H H1 → (∀ v H2, Gr H1 H2 → R v H2 → Q v H2) → sp vs H1 Q E
/-- a promise's ways out: a value, a new list, anything of which R holds -/
def RV (v : V) (H : Hp) (Q : VK) : Prop := ∀ H2, Gr H H2 → Q v H2
def RL (xs : List V) (H : Hp) (Q : VK) : Prop := ∀ p H2, H p = none → Gr H H2 → H2 p = some (.lst xs) → Q (.ref p) H2
def RR_ (R : V → Hp → Prop) (H : Hp) (Q : VK) : Prop := ∀ v H2, Gr H H2 → R v H2 → Q v H2
theorem RV.mono {v : V} {H H' : Hp} {Q : VK} (k : RV v H Q) (e : Gr H H') : RV v H' Q := fun H2 e2 => k H2 (e.trans e2)
theorem RL.mono {xs : List V} {H H' : Hp} {Q : VK} (k : RL xs H Q) (e : Gr H H') : RL xs H' Q := fun p H2 hp e2 h => k p H2 (e.free hp) (e.trans e2) h
theorem RR_.mono {R : V → Hp → Prop} {H H' : Hp} {Q : VK} (k : RR_ R H Q) (e : Gr H H') : RR_ R H' Q := fun v H2 e2 h => k v H2 (e.trans e2) h
theorem small {n : Nat} (h : n ≤ 100000) : n ≤ sizeLine := Nat.le_trans h (by decide)
theorem small' {n : Nat} (h : n < 100000) : n < sizeLine := Nat.lt_of_lt_of_le h (by decide)

section
variable {K : PySem.W.Frag} {σ : L2.St} {H H' : Hp} {t1 t2 t3 : TE} {c1 c2 : TT} {x y z v : V} {r : R2} {b c : Bool}
theorem Vl.mono (h : Vl t1 σ H v) (e : Gr H H') : Vl t1 σ H' v := fun H1 Q g q => h H1 Q (e.trans g) q
theorem Ls.mono {xs : List V} (h : Ls t1 σ H xs) (e : Gr H H') : Ls t1 σ H' xs := fun H1 Q g q => h H1 Q (e.trans g) q
theorem Ts.mono (h : Ts c1 σ H b) (e : Gr H H') : Ts c1 σ H' b := fun H1 Q g q => h H1 Q (e.trans g) q
theorem Vl.toR (h : Vl t1 σ H v) : Vr t1 σ H (fun u _ => u = v) := fun H1 Q g q => h H1 Q g fun H2 g2 => q v H2 g2 rfl
theorem Ls.toR {xs : List V} (h : Ls t1 σ H xs) : Vr t1 σ H (fun u H2 => ∃ p, u = .ref p ∧ H2 p = some (.lst xs)) := fun H1 Q g q => h H1 Q g fun p H2 _ g2 e => q _ H2 g2 ⟨p, rfl, e⟩
theorem Vl.is (h : Vl t1 σ H x) (e : x = y) : Vl t1 σ H y := e ▸ h
theorem Ts.is (h : Ts c1 σ H b) (e : b = c) : Ts c1 σ H c := e ▸ h
theorem Ls.is {xs ys : List V} (h : Ls t1 σ H xs) (e : xs = ys) : Ls t1 σ H ys := e ▸ h
theorem v_slot {i : Nat} (h : σ[i]? = some (some v)) : Vl (tVar i) σ H v := fun H1 _ _ q => ⟨v, h, q H1 (.refl _)⟩
theorem v_con : Vl (tC v) σ H v := fun H1 _ _ q => q H1 (.refl _)
theorem v_op (a : Vl t1 σ H x) (d : Vl t2 σ H y) (o : Bi r x y H z) : Vl (tOp r t1 t2) σ H z := fun H1 Q g q =>
  a H1 _ g fun H2 g2 => d H2 _ (g.trans g2) fun H3 g3 => o H3 _ ((g.trans g2).trans g3) fun H4 g4 => q H4 ((g2.trans g3).trans g4)
/-- the first operand, the second: of any kind -/
theorem v_opR {R S : V → Hp → Prop} (a : Vr t1 σ H R) (mR : ∀ {v H1 H2}, Gr H1 H2 → R v H1 → R v H2) (d : ∀ x H1, Gr H H1 → R x H1 → Vr t2 σ H1 S) (o : ∀ x y H1, Gr H H1 → R x H1 → S y H1 → Bi r x y H1 z) : Vl (tOp r t1 t2) σ H z := fun H1 Q g q =>
  a H1 _ g fun x H2 g2 hx => d x H2 (g.trans g2) hx H2 _ (.refl _) fun y H3 g3 hy => o x y H3 ((g.trans g2).trans g3) (mR g3 hx) hy H3 _ (.refl _) fun H4 g4 => q H4 ((g2.trans g3).trans g4)
theorem r_op {R S : V → Hp → Prop} (a : Vl t1 σ H x) (d : Vr t2 σ H R) (o : ∀ y H1, Gr H H1 → R y H1 → ∃ z, (∀ H2, Gr H1 H2 → S z H2) ∧ Bi r x y H1 z) : Vr (tOp r t1 t2) σ H S := fun H1 Q g q =>
  a H1 _ g fun H2 g2 => d H2 _ (g.trans g2) fun y H3 g3 hy => by
    obtain ⟨z, hz, b⟩ := o y H3 ((g.trans g2).trans g3) hy
    exact b H3 _ (.refl _) fun H4 g4 => q z H4 ((g2.trans g3).trans g4) (hz H4 g4)
theorem r_opV {R S : V → Hp → Prop} (a : Vr t1 σ H R) (d : ∀ H1, Gr H H1 → Vl t2 σ H1 y) (o : ∀ x H1, Gr H H1 → R x H1 → ∃ z, (∀ H2, Gr H1 H2 → S z H2) ∧ Bi r x y H1 z) : Vr (tOp r t1 t2) σ H S := fun H1 Q g q =>
  a H1 _ g fun x H2 g2 hx => d H2 (g.trans g2) H2 _ (.refl _) fun H3 g3 => by
    obtain ⟨z, hz, b⟩ := o x H2 (g.trans g2) hx
    exact b H3 _ g3 fun H4 g4 => q z H4 ((g2.trans g3).trans g4) (hz H4 (g3.trans g4))
theorem v_opL {xs : List V} (a : Ls t1 σ H xs) (d : ∀ H1, Gr H H1 → Vl t2 σ H1 y) (o : ∀ p H1, H1 p = some (.lst xs) → Gr H H1 → Bi r (.ref p) y H1 z) : Vl (tOp r t1 t2) σ H z := fun H1 Q g q =>
  a H1 _ g fun p H2 _ g2 hp => d H2 (g.trans g2) H2 _ (.refl _) fun H3 g3 => o p H3 (g3.lst hp) ((g.trans g2).trans g3) H3 _ (.refl _) fun H4 g4 => q H4 ((g2.trans g3).trans g4)
theorem v_opN {xs : List V} (a : Vl t1 σ H x) (d : Ls t2 σ H xs) (o : ∀ p H1, H1 p = some (.lst xs) → Gr H H1 → Bi r x (.ref p) H1 z) : Vl (tOp r t1 t2) σ H z := fun H1 Q g q =>
  a H1 _ g fun H2 g2 => d H2 _ (g.trans g2) fun p H3 _ g3 hp => o p H3 hp ((g.trans g2).trans g3) H3 _ (.refl _) fun H4 g4 => q H4 ((g2.trans g3).trans g4)
theorem v_opU {xs : List V} (a : Vl t1 σ H x) (d : Tu t2 σ H xs) (o : ∀ p H1, H1 p = some (.tup xs) → Gr H H1 → Bi r x (.ref p) H1 z) : Vl (tOp r t1 t2) σ H z := fun H1 Q g q =>
  a H1 _ g fun H2 g2 => d H2 _ (g.trans g2) fun p H3 _ g3 hp => o p H3 hp ((g.trans g2).trans g3) H3 _ (.refl _) fun H4 g4 => q H4 ((g2.trans g3).trans g4)
theorem v_un {f : V → Hp → VK → Prop} (a : Vl t1 σ H x) (o : ∀ H1 (Q : VK), Gr H H1 → Q z H1 → f x H1 Q) : Vl (tUn f t1) σ H z := fun H1 Q g q =>
  a H1 _ g fun H2 g2 => o H2 _ (g.trans g2) (q H2 g2)
theorem bi_0 {f : Int → Int → V} {i j : Int} : Bi (rI0 f) (.int i) (.int j) H (f i j) := fun H1 _ _ q => ⟨i, j, rfl, rfl, q H1 (.refl _)⟩
theorem bi_C {C : Int → Int → Prop} {f : Int → Int → V} {i j : Int} (h : C i j) : Bi (rI C f) (.int i) (.int j) H (f i j) := fun H1 _ _ q => ⟨i, j, rfl, rfl, h, q H1 (.refl _)⟩
theorem bi_eq (h : scal x y = true) : Bi rEq x y H (.bl (decide (x = y))) := fun H1 _ _ q => ⟨h, q H1 (.refl _)⟩
theorem bi_ne (h : scal x y = true) : Bi rNe x y H (.bl (!decide (x = y))) := fun H1 _ _ q => ⟨h, q H1 (.refl _)⟩
theorem bi_ixL {p : Addr} {xs : List V} {i : Int} (s : SqL K H p xs) (h : atI xs i = some v) : Bi (rIxL K) (.ref p) (.int i) H v := fun H1 _ g q => ⟨p, xs, i, v, rfl, rfl, g.sl s, h, q H1 (.refl _)⟩
theorem bi_ixT {p : Addr} {xs : List V} {i : Int} (s : SqT K H p xs) (h : atI xs i = some v) : Bi (rIxT K) (.ref p) (.int i) H v := fun H1 _ g q => ⟨p, xs, i, v, rfl, rfl, g.st s, h, q H1 (.refl _)⟩
theorem bi_ixS {w : Str} {i : Int} {k : Nat} (s : w.length ≤ 100000) (h : atI w.cps.toList i = some k) : Bi rIxS (.str w) (.int i) H (.str ⟨#[k]⟩) := fun H1 _ _ q => ⟨w, i, k, rfl, rfl, small s, h, q H1 (.refl _)⟩
theorem bi_cat {u w : Str} (h : u.length + w.length ≤ 100000) : Bi (fun x y H Q => ∃ i j, x = .str i ∧ y = .str j ∧ i.length + j.length ≤ sizeLine ∧ Q (.str (i ++ j)) H) (.str u) (.str w) H (.str (u ++ w)) := fun H1 _ _ q => ⟨u, w, rfl, rfl, small h, q H1 (.refl _)⟩
theorem bi_isN : Bi (fun x y H Q => y = .non ∧ Q (.bl (decide (x = .non))) H) x .non H (.bl (decide (x = .non))) := fun H1 _ _ q => ⟨rfl, q H1 (.refl _)⟩
theorem bi_notN : Bi (fun x y H Q => y = .non ∧ Q (.bl (!decide (x = .non))) H) x .non H (.bl (!decide (x = .non))) := fun H1 _ _ q => ⟨rfl, q H1 (.refl _)⟩
theorem bi_inT {neg : Bool} {p : Addr} {xs : List V} (s : SqT K H p xs) (hx : flatV x = true) (ha : xs.all flatV = true) : Bi (rIn K neg) x (.ref p) H (.bl (if neg then !inV x xs else inV x xs)) := fun H1 _ g q => ⟨p, xs, rfl, .inr (g.st s), hx, ha, q H1 (.refl _)⟩
theorem bi_inL {neg : Bool} {p : Addr} {xs : List V} (s : SqL K H p xs) (hx : flatV x = true) (ha : xs.all flatV = true) : Bi (rIn K neg) x (.ref p) H (.bl (if neg then !inV x xs else inV x xs)) := fun H1 _ g q => ⟨p, xs, rfl, .inl (g.sl s), hx, ha, q H1 (.refl _)⟩
theorem bi_eqD {d e : PyData} (hx : Dp K H x d) (hy : Dp K H y e) (sd : SeqAt.shaped d = true) (se : SeqAt.shaped e = true) : Bi (rEqD K) x y H (.bl (PyData.eqv d e)) := fun H1 _ g q => ⟨d, e, g.dp hx, g.dp hy, sd, se, q H1 (.refl _)⟩
theorem bi_neD {d e : PyData} (hx : Dp K H x d) (hy : Dp K H y e) (sd : SeqAt.shaped d = true) (se : SeqAt.shaped e = true) : Bi (rNeD K) x y H (.bl (!PyData.eqv d e)) := fun H1 _ g q => ⟨d, e, g.dp hx, g.dp hy, sd, se, q H1 (.refl _)⟩

/-! #### tests -/
theorem s_test (h : Vl t1 σ H (.bl b)) : Ts (tTest t1) σ H b := fun H1 _ g q => h H1 _ g fun H2 g2 => ⟨b, rfl, q H2 g2⟩
theorem s_B (h : Vl t1 σ H (.bl b)) : Ts (tB t1) σ H b := fun H1 _ g q => h H1 _ g fun H2 g2 => ⟨b, rfl, q H2 g2⟩
theorem s_truB (h : Vl t1 σ H (.bl b)) : Ts (fun σ H Q => t1 σ H fun x H' => ∃ k, TruV K x H' k ∧ Q k H') σ H b := fun H1 _ g q => h H1 _ g fun H2 g2 => ⟨b, rfl, q H2 g2⟩
theorem s_truL {a : Addr} {xs : List V} (h : Vl t1 σ H (.ref a)) (s : SqL K H a xs) : Ts (fun σ H Q => t1 σ H fun x H' => ∃ k, TruV K x H' k ∧ Q k H') σ H (!xs.isEmpty) := fun H1 _ g q => h H1 _ g fun H2 g2 => ⟨_, .inl ⟨xs, (g.trans g2).sl s, rfl⟩, q H2 g2⟩
theorem s_not (h : Ts c1 σ H b) : Ts (tNot c1) σ H (!b) := fun H1 _ g q => h H1 _ g fun H2 g2 => q H2 g2
theorem s_and (h : Ts c1 σ H b) (k : b = true → Ts c2 σ H c) : Ts (tAnd c1 c2) σ H (b && c) := fun H1 Q g q => h H1 _ g fun H2 g2 => by
  cases b
  · exact iteF (q H2 g2)
  · exact iteT (k rfl H2 _ (g.trans g2) fun H3 g3 => q H3 (g2.trans g3))
theorem s_or (h : Ts c1 σ H b) (k : b = false → Ts c2 σ H c) : Ts (tOr c1 c2) σ H (b || c) := fun H1 Q g q => h H1 _ g fun H2 g2 => by
  cases b
  · exact iteF (k rfl H2 _ (g.trans g2) fun H3 g3 => q H3 (g2.trans g3))
  · exact iteT (q H2 g2)
theorem v_chain {r' : R2} (a : Vl t1 σ H x) (d : Vl t2 σ H y) (o : Bi r x y H (.bl b)) (k : b = true → Vl t3 σ H z) (o2 : b = true → Bi r' y z H (.bl c)) : Vl (tChain r r' t1 t2 t3) σ H (.bl (b && c)) := fun H1 Q g q =>
  a H1 _ g fun H2 g2 => d H2 _ (g.trans g2) fun H3 g3 => o H3 _ ((g.trans g2).trans g3) fun H4 g4 => ⟨b, rfl, by
    cases b
    · exact iteF (q H4 ((g2.trans g3).trans g4))
    · exact iteT (k rfl H4 _ (((g.trans g2).trans g3).trans g4) fun H5 g5 => o2 rfl H5 _ ((((g.trans g2).trans g3).trans g4).trans g5) fun H6 g6 => q H6 ((((g2.trans g3).trans g4).trans g5).trans g6))⟩
theorem v_and (h : Vl t1 σ H (.bl b)) (k : b = true → Vl t2 σ H (.bl c)) : Vl (tAndV t1 t2) σ H (.bl (b && c)) := fun H1 Q g q => h H1 _ g fun H2 g2 => ⟨b, rfl, by
  cases b
  · exact iteF (q H2 g2)
  · exact iteT (k rfl H2 _ (g.trans g2) fun H3 g3 => q H3 (g2.trans g3))⟩
theorem v_or (h : Vl t1 σ H (.bl b)) (k : b = false → Vl t2 σ H (.bl c)) : Vl (tOrV t1 t2) σ H (.bl (b || c)) := fun H1 Q g q => h H1 _ g fun H2 g2 => ⟨b, rfl, by
  cases b
  · exact iteF (k rfl H2 _ (g.trans g2) fun H3 g3 => q H3 (g2.trans g3))
  · exact iteT (q H2 g2)⟩
theorem v_not (h : Vl t1 σ H (.bl b)) : Vl (tNotV t1) σ H (.bl (!b)) := fun H1 _ g q => h H1 _ g fun H2 g2 => ⟨b, rfl, q H2 g2⟩
theorem v_if (h : Ts c1 σ H b) (k1 : b = true → Vl t1 σ H v) (k2 : b = false → Vl t2 σ H v) : Vl (tIf c1 t1 t2) σ H v := fun H1 Q g q => h H1 _ g fun H2 g2 => by
  cases b
  · exact iteF (k2 rfl H2 _ (g.trans g2) fun H3 g3 => q H3 (g2.trans g3))
  · exact iteT (k1 rfl H2 _ (g.trans g2) fun H3 g3 => q H3 (g2.trans g3))

/-! #### arguments, calls, new objects -/
variable {a1 : TA} {vs xs : List V}
theorem g_nil : Ag tNil σ H [] := fun H1 _ _ q => q H1 (.refl _)
theorem g_cons (h : Vl t1 σ H x) (k : Ag a1 σ H vs) : Ag (tCons t1 a1) σ H (x :: vs) := fun H1 _ g q => h H1 _ g fun H2 g2 => k H2 _ (g.trans g2) fun H3 g3 => q H3 (g2.trans g3)
theorem l_lst (h : Ag a1 σ H vs) (n : vs.length ≤ 100000) : Ls (tLst a1) σ H vs := fun H1 _ g q => h H1 _ g fun H2 g2 => ⟨small n, fun p hp => q p _ (g2.free hp) (g2.trans (.new hp)) upd_same⟩
theorem u_tup (h : Ag a1 σ H vs) (n : vs.length ≤ 100000) : Tu (tTup a1) σ H vs := fun H1 _ g q => h H1 _ g fun H2 g2 => ⟨small n, fun p hp => q p _ (g2.free hp) (g2.trans (.new hp)) upd_same⟩
theorem v_call {sp : Sp} {ds : List V} {E : XK} (h : Ag a1 σ H vs) (k : SpV sp (vs ++ ds) H z) : Vl (tCall sp ds E a1) σ H z := fun H1 _ g q => h H1 _ g fun H2 g2 => k H2 _ _ (g.trans g2) fun H3 g3 => q H3 (g2.trans g3)
theorem l_call {sp : Sp} {ds : List V} {E : XK} (h : Ag a1 σ H vs) (k : SpL sp (vs ++ ds) H xs) : Ls (tCall sp ds E a1) σ H xs := fun H1 _ g q => h H1 _ g fun H2 g2 => k H2 _ _ (g.trans g2) fun p H3 hp g3 e => q p H3 (g2.free hp) (g2.trans g3) e
theorem r_call {sp : Sp} {ds : List V} {E : XK} {R : V → Hp → Prop} (h : Ag a1 σ H vs) (k : SpR sp (vs ++ ds) H R) : Vr (tCall sp ds E a1) σ H R := fun H1 _ g q => h H1 _ g fun H2 g2 => k H2 _ _ (g.trans g2) fun v H3 g3 e => q v H3 (g2.trans g3) e
/-- a built-in's call, by its reading -/
theorem v_blt {f : List V → Hp → VK → Prop} (h : Ag a1 σ H vs) (k : ∀ H1 (Q : VK), Gr H H1 → (∀ H2, Gr H1 H2 → Q z H2) → f vs H1 Q) : Vl (tCB f a1) σ H z := fun H1 _ g q => h H1 _ g fun H2 g2 => k H2 _ (g.trans g2) fun H3 g3 => q H3 (g2.trans g3)
theorem l_blt {f : List V → Hp → VK → Prop} (h : Ag a1 σ H vs) (k : ∀ H1 (Q : VK), Gr H H1 → (∀ p H2, H1 p = none → Gr H1 H2 → H2 p = some (.lst xs) → Q (.ref p) H2) → f vs H1 Q) : Ls (tCB f a1) σ H xs := fun H1 _ g q => h H1 _ g fun H2 g2 => k H2 _ (g.trans g2) fun p H3 hp g3 e => q p H3 (g2.free hp) (g2.trans g3) e
abbrev fLen (K : PySem.W.Frag) : List V → Hp → VK → Prop := fun xs H Q => ∃ p ys, xs = [.ref p] ∧ (SqL K H p ys ∨ SqT K H p ys) ∧ Q (.int ys.length) H
theorem v_len {p : Addr} {xs : List V} (h : Vl t1 σ H (.ref p)) (s : SqL K H p xs) : Vl (tCB (fLen K) (tCons t1 tNil)) σ H (.int xs.length) := v_blt (g_cons h g_nil) fun H1 _ g q => ⟨p, xs, rfl, .inl (g.sl s), q H1 (.refl _)⟩
theorem v_lenS {w : Str} (h : Vl t1 σ H (.str w)) (s : w.length ≤ 100000) : Vl (tCB (fun xs H Q => ∃ z, xs = [.str z] ∧ z.length ≤ sizeLine ∧ Q (.int z.length) H) (tCons t1 tNil)) σ H (.int w.length) := v_blt (g_cons h g_nil) fun H1 _ _ q => ⟨w, rfl, small s, q H1 (.refl _)⟩
theorem v_isi {w : V} {u t : Value} (h : Vl t1 σ H x) (h2 : Vl t2 σ H w) (k : ClsV w u) (ty : ∀ H1, Gr H H1 → TyX K H1 x t) (e : PySem.W.kitOne K t u = some b) : Vl (tCB (rIsi K) (tCons t1 (tCons t2 tNil))) σ H (.bl b) := v_blt (g_cons h (g_cons h2 g_nil)) fun H1 _ g q => ⟨x, w, t, u, b, rfl, k, ty H1 g, e, q H1 (.refl _)⟩
theorem v_isbB (h : Vl t1 σ H (.bl b)) : Vl (tCB (rIsi K) (tCons t1 (tCons (tC (.ty "bool")) tNil))) σ H (.bl true) := v_isi h v_con (.ty _) (fun _ _ => .base (.bl b)) (kit_ty (by decide +kernel))
theorem v_isiI {i : Int} (h : Vl t1 σ H (.int i)) : Vl (tCB (rIsi K) (tCons t1 (tCons (tC (.ty "int")) tNil))) σ H (.bl true) := v_isi h v_con (.ty _) (fun _ _ => .base (.int i)) (kit_ty (by decide +kernel))
theorem v_isbI {i : Int} (h : Vl t1 σ H (.int i)) : Vl (tCB (rIsi K) (tCons t1 (tCons (tC (.ty "bool")) tNil))) σ H (.bl false) := v_isi h v_con (.ty _) (fun _ _ => .base (.int i)) (kit_ty (by decide +kernel))
theorem v_isiN (h : Vl t1 σ H .non) : Vl (tCB (rIsi K) (tCons t1 (tCons (tC (.ty "int")) tNil))) σ H (.bl false) := v_isi h v_con (.ty _) (fun _ _ => .base .non) (kit_ty (by decide +kernel))
theorem v_issS {w : Str} (h : Vl t1 σ H (.str w)) : Vl (tCB (rIsi K) (tCons t1 (tCons (tC (.ty "str")) tNil))) σ H (.bl true) := v_isi h v_con (.ty _) (fun _ _ => .base (.str w)) (kit_ty (by decide +kernel))
theorem v_max {i j : Int} (h : Vl t1 σ H (.int i)) (h2 : Vl t2 σ H (.int j)) : Vl (tCB (fun xs H Q => ∃ i j, xs = [.int i, .int j] ∧ Q (.int (if j > i then j else i)) H) (tCons t1 (tCons t2 tNil))) σ H (.int (if j > i then j else i)) := v_blt (g_cons h (g_cons h2 g_nil)) fun H1 _ _ q => ⟨i, j, rfl, q H1 (.refl _)⟩
theorem v_min {i j : Int} (h : Vl t1 σ H (.int i)) (h2 : Vl t2 σ H (.int j)) : Vl (tCB (fun xs H Q => ∃ i j, xs = [.int i, .int j] ∧ Q (.int (if j < i then j else i)) H) (tCons t1 (tCons t2 tNil))) σ H (.int (if j < i then j else i)) := v_blt (g_cons h (g_cons h2 g_nil)) fun H1 _ _ q => ⟨i, j, rfl, q H1 (.refl _)⟩
theorem v_str {i : Int} (h : Vl t1 σ H (.int i)) (n : i.natAbs.log2 < 1920) : Vl (tCB (fun xs H Q => ∃ i, xs = [.int i] ∧ i.natAbs.log2 < 1920 ∧ Q (.str (toString i)) H) (tCons t1 tNil)) σ H (.str (toString i)) := v_blt (g_cons h g_nil) fun H1 _ _ q => ⟨i, rfl, n, q H1 (.refl _)⟩
theorem v_intB (h : Vl t1 σ H (.bl b)) : Vl (tCB (fun xs H Q => (∃ i, xs = [.int i] ∧ Q (.int i) H) ∨ ∃ k, xs = [.bl k] ∧ Q (.int (if k then 1 else 0)) H) (tCons t1 tNil)) σ H (.int (if b then 1 else 0)) := v_blt (g_cons h g_nil) fun H1 _ _ q => .inr ⟨b, rfl, q H1 (.refl _)⟩
theorem l_list {p : Addr} {xs : List V} (h : Vl t1 σ H (.ref p)) (s : SqL K H p xs) : Ls (tCB (fun xs H Q => ∃ p ys, xs = [.ref p] ∧ (SqL K H p ys ∨ SqT K H p ys) ∧ ∀ l, H l = none → Q (.ref l) (upd H l (.lst ys))) (tCons t1 tNil)) σ H xs :=
  l_blt (g_cons h g_nil) fun _ _ g q => ⟨p, xs, rfl, .inl (g.sl s), fun l hl => q l _ hl (.new hl) upd_same⟩
/-- slices -/
def Pt (to : TO) (σ : L2.St) (H : Hp) (o : Option Int) : Prop := ∀ (H1 : Hp) (Q : Option Int → Hp → Prop), Gr H H1 → (∀ H2, Gr H1 H2 → Q o H2) → to σ H1 Q
theorem p_no : Pt tNoPart σ H none := fun H1 _ _ q => q H1 (.refl _)
theorem p_int {i : Int} (h : Vl t1 σ H (.int i)) : Pt (tPart t1) σ H (some i) := fun H1 _ g q => h H1 _ g fun H2 g2 => ⟨i, rfl, q H2 g2⟩
theorem l_slice {tl th : TO} {a : Addr} {xs : List V} {lo hi : Option Int} (h : Vl t1 σ H (.ref a)) (h1 : Pt tl σ H lo) (h2 : Pt th σ H hi) (s : SqL K H a xs) : Ls (tSl (rSlL K) t1 tl th) σ H (cutV xs lo hi) := fun H1 _ g q =>
  h H1 _ g fun H2 g2 => h1 H2 _ (g.trans g2) fun H3 g3 => h2 H3 _ ((g.trans g2).trans g3) fun H4 g4 => ⟨a, xs, rfl, (((g.trans g2).trans g3).trans g4).sl s, fun p hp => q p _ (((g2.trans g3).trans g4).free hp) (((g2.trans g3).trans g4).trans (.new hp)) upd_same⟩

/-! #### statements; S..: the last one, B..: something behind it -/
variable {D : Ends} {u1 u2 u3 : TS} {g1 : TG} {i : Nat}
theorem S_ret (h : Vl t1 σ H v) (k : ∀ H1, Gr H H1 → D.rt v H1) : tRet t1 D σ H := h H _ (.refl _) k
theorem S_retL (h : Ls t1 σ H xs) (k : ∀ p H1, H p = none → Gr H H1 → H1 p = some (.lst xs) → D.rt (.ref p) H1) : tRet t1 D σ H := h H _ (.refl _) k
theorem S_retR {R : V → Hp → Prop} (h : Vr t1 σ H R) (k : ∀ v H1, Gr H H1 → R v H1 → D.rt v H1) : tRet t1 D σ H := h H _ (.refl _) k
theorem S_set (h : Vl t1 σ H v) (k : ∀ H1, Gr H H1 → D.nx (σ.set i (some v)) H1) : tAsg t1 (gName i) D σ H := h H _ (.refl _) k
theorem S_setL (h : Ls t1 σ H xs) (k : ∀ p H1, H p = none → Gr H H1 → H1 p = some (.lst xs) → D.nx (σ.set i (some (.ref p))) H1) : tAsg t1 (gName i) D σ H := h H _ (.refl _) k
theorem S_setU (h : Tu t1 σ H xs) (k : ∀ p H1, H p = none → Gr H H1 → H1 p = some (.tup xs) → D.nx (σ.set i (some (.ref p))) H1) : tAsg t1 (gName i) D σ H := h H _ (.refl _) k
theorem S_setR {R : V → Hp → Prop} (h : Vr t1 σ H R) (k : ∀ v H1, Gr H H1 → R v H1 → D.nx (σ.set i (some v)) H1) : tAsg t1 (gName i) D σ H := h H _ (.refl _) k
theorem S_drop (h : Vl t1 σ H v) (k : ∀ H1, Gr H H1 → D.nx σ H1) : tDrop t1 D σ H := h H _ (.refl _) k
theorem S_if (h : Ts c1 σ H b) (k1 : b = true → ∀ H1, Gr H H1 → u1 D σ H1) (k2 : b = false → ∀ H1, Gr H H1 → u2 D σ H1) : tIfS c1 u1 u2 D σ H := h H _ (.refl _) fun H1 g => by
  cases b
  · exact iteF (k2 rfl H1 g)
  · exact iteT (k1 rfl H1 g)
theorem B_set (h : Vl t1 σ H v) (k : ∀ H1, Gr H H1 → u1 D (σ.set i (some v)) H1) : tSeq (tAsg t1 (gName i)) u1 D σ H := S_set (D := { D with nx := u1 D }) h k
theorem B_setL (h : Ls t1 σ H xs) (k : ∀ p H1, H p = none → Gr H H1 → H1 p = some (.lst xs) → u1 D (σ.set i (some (.ref p))) H1) : tSeq (tAsg t1 (gName i)) u1 D σ H := S_setL (D := { D with nx := u1 D }) h k
theorem B_setU (h : Tu t1 σ H xs) (k : ∀ p H1, H p = none → Gr H H1 → H1 p = some (.tup xs) → u1 D (σ.set i (some (.ref p))) H1) : tSeq (tAsg t1 (gName i)) u1 D σ H := S_setU (D := { D with nx := u1 D }) h k
theorem B_setR {R : V → Hp → Prop} (h : Vr t1 σ H R) (k : ∀ v H1, Gr H H1 → R v H1 → u1 D (σ.set i (some v)) H1) : tSeq (tAsg t1 (gName i)) u1 D σ H := S_setR (D := { D with nx := u1 D }) h k
theorem B_drop (h : Vl t1 σ H v) (k : ∀ H1, Gr H H1 → u1 D σ H1) : tSeq (tDrop t1) u1 D σ H := S_drop (D := { D with nx := u1 D }) h k
theorem B_if (h : Ts c1 σ H b) (k1 : b = true → ∀ H1, Gr H H1 → u1 { D with nx := u3 D } σ H1) (k2 : b = false → ∀ H1, Gr H H1 → u2 { D with nx := u3 D } σ H1) : tSeq (tIfS c1 u1 u2) u3 D σ H := S_if (D := { D with nx := u3 D }) h k1 k2
theorem B_when (h : Ts c1 σ H b) (k1 : b = true → ∀ H1, Gr H H1 → u1 { D with nx := u3 D } σ H1) (k2 : b = false → ∀ H1, Gr H H1 → u3 D σ H1) : tSeq (tIfS c1 u1 tNext) u3 D σ H := S_if (D := { D with nx := u3 D }) h k1 k2
theorem S_when (h : Ts c1 σ H b) (k1 : b = true → ∀ H1, Gr H H1 → u1 D σ H1) (k2 : b = false → ∀ H1, Gr H H1 → D.nx σ H1) : tIfS c1 u1 tNext D σ H := S_if h k1 k2
/-- a slot set anew in an if without else, told by what it holds behind -/
theorem S_whenSet (h : Ts c1 σ H b) (hy : σ[i]? = some (some y)) (k1 : b = true → Vl t1 σ H v) (hv : b = false → v = y) (k : ∀ H1, Gr H H1 → D.nx (σ.set i (some v)) H1) : tIfS c1 (tAsg t1 (gName i)) tNext D σ H :=
  S_when h (fun hb H1 g => S_set ((k1 hb).mono g) fun H2 g2 => k H2 (g.trans g2)) fun hb H1 g => by
    obtain ⟨hi, e2⟩ := List.getElem?_eq_some_iff.mp hy
    have h2 := k H1 g
    rw [hv hb, ← e2, List.set_getElem_self hi] at h2
    exact h2
theorem B_whenSet (h : Ts c1 σ H b) (hy : σ[i]? = some (some y)) (k1 : b = true → Vl t1 σ H v) (hv : b = false → v = y) (k : ∀ H1, Gr H H1 → u3 D (σ.set i (some v)) H1) : tSeq (tIfS c1 (tAsg t1 (gName i)) tNext) u3 D σ H := S_whenSet (D := { D with nx := u3 D }) h hy k1 hv k
theorem B_whenInt {m n : Int} (h : Ts c1 σ H b) (hy : σ[i]? = some (some (.int n))) (k1 : Vl t1 σ H (.int m)) (k : ∀ H1, Gr H H1 → u3 D (σ.set i (some (.int (if b = true then m else n)))) H1) : tSeq (tIfS c1 (tAsg t1 (gName i)) tNext) u3 D σ H :=
  B_whenSet h hy (fun hb => k1.is (by rw [if_pos hb])) (fun hb => by rw [if_neg (by rw [hb]; exact Bool.false_ne_true)]) k
theorem B_cut {M : L2.St → Hp → Prop} (h : u1 { D with nx := M } σ H) (k : ∀ σ' H', M σ' H' → u2 D σ' H') : Evl.tCut u1 u2 D σ H := ⟨M, h, k⟩
/-- xs.append(e), the list known by its place -/
theorem S_app {l : Addr} {xs : List V} (hl : H l = some (.lst xs)) (a : Vl t1 σ H (.ref l)) (h : Vl t2 σ H v) (n : xs.length < 100000) (k : ∀ H1, Gr H H1 → D.nx σ (upd H1 l (.lst (xs ++ [v])))) : tDrop (tBM K "list" rAppend t1 (tCons t2 tNil)) D σ H := a H _ (.refl _) fun H1 g =>
  ⟨.inl ⟨rfl, xs, SqL.of (g.lst hl)⟩, h H1 _ g fun H2 g2 => ⟨l, xs, v, rfl, rfl, g2.lst (g.lst hl), small' n, k H2 (g.trans g2)⟩⟩
theorem S_appU {l : Addr} {xs ys : List V} (hl : H l = some (.lst xs)) (a : Vl t1 σ H (.ref l)) (h : Tu t2 σ H ys) (n : xs.length < 100000) (k : ∀ p H1, H p = none → Gr H H1 → H1 p = some (.tup ys) → D.nx σ (upd H1 l (.lst (xs ++ [.ref p])))) : tDrop (tBM K "list" rAppend t1 (tCons t2 tNil)) D σ H := a H _ (.refl _) fun H1 g =>
  ⟨.inl ⟨rfl, xs, SqL.of (g.lst hl)⟩, h H1 _ g fun p H2 hp g2 e => ⟨l, xs, .ref p, rfl, rfl, g2.lst (g.lst hl), small' n, k p H2 (g.free hp) (g.trans g2) e⟩⟩

theorem B_appU {l : Addr} {xs ys : List V} (hl : H l = some (.lst xs)) (a : Vl t1 σ H (.ref l)) (h : Tu t2 σ H ys) (n : xs.length < 100000) (k : ∀ p H1, H p = none → Gr H H1 → H1 p = some (.tup ys) → u1 D σ (upd H1 l (.lst (xs ++ [.ref p])))) : tSeq (tDrop (tBM K "list" rAppend t1 (tCons t2 tNil))) u1 D σ H := S_appU (D := { D with nx := u1 D }) hl a h n k
theorem B_app {l : Addr} {xs : List V} (hl : H l = some (.lst xs)) (a : Vl t1 σ H (.ref l)) (h : Vl t2 σ H v) (n : xs.length < 100000) (k : ∀ H1, Gr H H1 → u1 D σ (upd H1 l (.lst (xs ++ [v])))) : tSeq (tDrop (tBM K "list" rAppend t1 (tCons t2 tNil))) u1 D σ H := S_app (D := { D with nx := u1 D }) hl a h n k

/-! #### loops -/
theorem S_for1 {j : Nat} {n : Int} (h : Ag a1 σ H [.int n]) (hn : 0 ≤ n ∧ n ≤ 100000) (Pv : Nat → L2.St → Hp → Prop) (h0 : ∀ H1, Gr H H1 → Pv 0 σ H1)
    (hs : ∀ (m : Nat) σ' H', (m : Int) < n → Pv m σ' H' → u1 { D with nx := Pv (m + 1), ct := Pv (m + 1), bk := D.nx } (σ'.set j (some (.int (m : Int)))) H') (hd : ∀ σ' H', Pv n.toNat σ' H' → D.nx σ' H') : tFor (iRng1 a1) (gName j) u1 D σ H :=
  h H _ (.refl _) fun H1 g => ⟨n, rfl, by omega, by omega, for_range (lo := 0) (n := n.toNat) Pv (h0 H1 g) (fun m σ' H' hm p => by
    have q := hs m σ' H' (by omega) p
    rw [← Int.zero_add (m : Int)] at q
    exact q) hd⟩
theorem B_for1 {j : Nat} {n : Int} (h : Ag a1 σ H [.int n]) (hn : 0 ≤ n ∧ n ≤ 100000) (Pv : Nat → L2.St → Hp → Prop) (h0 : ∀ H1, Gr H H1 → Pv 0 σ H1)
    (hs : ∀ (m : Nat) σ' H', (m : Int) < n → Pv m σ' H' → u1 { D with nx := Pv (m + 1), ct := Pv (m + 1), bk := u2 D } (σ'.set j (some (.int (m : Int)))) H') (hd : ∀ σ' H', Pv n.toNat σ' H' → u2 D σ' H') : tSeq (tFor (iRng1 a1) (gName j) u1) u2 D σ H :=
  S_for1 (D := { D with nx := u2 D }) h hn Pv h0 hs hd
theorem S_forL {a : Addr} {xs : List V} (h : Vl t1 σ H (.ref a)) (s : SqL K H a xs) (Pv : Nat → L2.St → Hp → Prop) (h0 : ∀ H1, Gr H H1 → Pv 0 σ H1) (hl : ∀ m σ' H', m ≤ xs.length → Pv m σ' H' → SqL K H' a xs)
    (hs : ∀ m x σ' H', xs[m]? = some x → Pv m σ' H' → g1 x σ' H' fun σ2 H2 => u1 { D with nx := Pv (m + 1), ct := Pv (m + 1), bk := D.nx } σ2 H2) (hd : ∀ σ' H', Pv xs.length σ' H' → D.nx σ' H') : tFor (iList K t1) g1 u1 D σ H :=
  h H _ (.refl _) fun H1 g => ⟨a, rfl, ⟨xs, g.sl s⟩, for_list Pv (h0 H1 g) hl hs hd⟩
theorem B_forL {a : Addr} {xs : List V} (h : Vl t1 σ H (.ref a)) (s : SqL K H a xs) (Pv : Nat → L2.St → Hp → Prop) (h0 : ∀ H1, Gr H H1 → Pv 0 σ H1) (hl : ∀ m σ' H', m ≤ xs.length → Pv m σ' H' → SqL K H' a xs)
    (hs : ∀ m x σ' H', xs[m]? = some x → Pv m σ' H' → g1 x σ' H' fun σ2 H2 => u1 { D with nx := Pv (m + 1), ct := Pv (m + 1), bk := u2 D } σ2 H2) (hd : ∀ σ' H', Pv xs.length σ' H' → u2 D σ' H') : tSeq (tFor (iList K t1) g1 u1) u2 D σ H :=
  S_forL (D := { D with nx := u2 D }) h s Pv h0 hl hs hd
theorem S_while (W : Nat → L2.St → Hp → Prop) (m0 : Nat) (h0 : W m0 σ H)
    (hs : ∀ m σ' H', W m σ' H' → ∃ b, Ts c1 σ' H' b ∧ (b = true → ∀ H1, Gr H' H1 → ∃ N : L2.St → Hp → Prop, (∀ σ2 H2, N σ2 H2 → ∃ m', m' < m ∧ W m' σ2 H2) ∧ u1 { D with nx := N, ct := N, bk := D.nx } σ' H1) ∧ (b = false → ∀ H1, Gr H' H1 → D.nx σ' H1)) : tWhile c1 u1 D σ H :=
  ⟨W, ⟨m0, h0⟩, fun m σ' H' hw => by
    obtain ⟨b, hb, y1, n1⟩ := hs m σ' H' hw
    refine hb H' _ (.refl _) fun H1 g => ?_
    cases b
    · exact n1 rfl H1 g
    · exact y1 rfl H1 g⟩
theorem B_while (W : Nat → L2.St → Hp → Prop) (m0 : Nat) (h0 : W m0 σ H)
    (hs : ∀ m σ' H', W m σ' H' → ∃ b, Ts c1 σ' H' b ∧ (b = true → ∀ H1, Gr H' H1 → ∃ N : L2.St → Hp → Prop, (∀ σ2 H2, N σ2 H2 → ∃ m', m' < m ∧ W m' σ2 H2) ∧ u1 { D with nx := N, ct := N, bk := u2 D } σ' H1) ∧ (b = false → ∀ H1, Gr H' H1 → u2 D σ' H1)) : tSeq (tWhile c1 u1) u2 D σ H :=
  S_while (D := { D with nx := u2 D }) W m0 h0 hs

/-! #### comprehensions: the turns that give, and what they give -/
def out (n : Nat) (f : Nat → Bool) (val : Nat → V) : List V := ((List.range n).filter f).map val
theorem out_succ (n : Nat) (f : Nat → Bool) (val : Nat → V) : out (n + 1) f val = out n f val ++ (if f n = true then [val n] else []) := by
  unfold out
  rw [List.range_succ, List.filter_append, List.map_append, List.filter_cons]
  cases f n <;> rfl
theorem out_le (n : Nat) (f : Nat → Bool) (val : Nat → V) : (out n f val).length ≤ n := by
  unfold out
  rw [List.length_map]
  exact Nat.le_trans (List.length_filter_le _ _) (Nat.le_of_eq List.length_range)
def Cmp (H : Hp) (f : Nat → Bool) (val : Nat → V) (p : Addr) (m : Nat) (H' : Hp) : Prop := H p = none ∧ Gr H H' ∧ H' p = some (.lst (out m f val))
theorem Cmp.turn {f : Nat → Bool} {val : Nat → V} {p : Addr} {m : Nat} {σ2 : L2.St} (w : Cmp H f val p m H') (hm : m < 50000) (ht : Ts c1 σ2 H (f m)) (he : f m = true → Vl t1 σ2 H (val m)) :
    c1 σ2 H' fun b H3 => if b = true then t1 σ2 H3 fun y H4 => ∃ acc, H4 p = some (.lst acc) ∧ acc.length < sizeLine ∧ Cmp H f val p (m + 1) (upd H4 p (.lst (acc ++ [y]))) else Cmp H f val p (m + 1) H3 := by
  obtain ⟨w1, w2, w3⟩ := w
  refine ht H' _ w2 fun H3 g3 => ?_
  have o := out_succ m f val
  cases hf : f m
  · rw [hf] at o
    refine iteF ⟨w1, w2.trans g3, ?_⟩
    rw [o, if_neg Bool.false_ne_true, List.append_nil]
    exact g3.lst w3
  · rw [hf, if_pos rfl] at o
    refine iteT (he hf H3 _ (w2.trans g3) fun H4 g4 => ⟨out m f val, g4.lst (g3.lst w3), small' (by have := out_le m f val; omega), w1, ((w2.trans g3).trans g4).chg w1, ?_⟩)
    rw [o]
    exact upd_same
theorem l_cmp1 {j : Nat} {ws : List Nat} {n : Int} (f : Nat → Bool) (val : Nat → V) (h : Ag a1 σ H [.int n]) (hn : 0 ≤ n ∧ n ≤ 40000) (hw : ∀ x, wipe ((wipe σ ws).set j (some x)) ws = wipe σ ws)
    (ht : ∀ (m : Nat) H1, Gr H H1 → (m : Int) < n → Ts c1 ((wipe σ ws).set j (some (.int (m : Int)))) H1 (f m)) (he : ∀ (m : Nat) H1, Gr H H1 → (m : Int) < n → f m = true → Vl t1 ((wipe σ ws).set j (some (.int (m : Int)))) H1 (val m)) :
    Ls (tLc (iRng1 a1) (gName j) c1 t1 ws) σ H (out n.toNat f val) := fun H0 Q g q => h H0 _ g fun H1 g1 => ⟨n, rfl, by omega, by omega, fun p hp =>
  lc_range (lo := 0) (n := n.toNat) (Cmp H1 f val p) ⟨hp, .new hp, upd_same⟩ (fun m H' hm w => by
    have t := ht m H1 (g.trans g1) (by omega)
    have e := he m H1 (g.trans g1) (by omega)
    rw [← Int.zero_add (m : Int)] at t e
    exact ⟨hw _, w.turn (by omega) t e⟩) fun H' w => q p H' (g1.free w.1) (g1.trans w.2.1) w.2.2⟩
theorem l_cmpL {a : Addr} {xs : List V} {j : Nat} {ws : List Nat} (f : Nat → Bool) (val : Nat → V) (h : Vl t2 σ H (.ref a)) (s : SqL K H a xs) (hz : xs.length ≤ 40000) (hw : ∀ x, wipe ((wipe σ ws).set j (some x)) ws = wipe σ ws)
    (ht : ∀ (m : Nat) (x : V) H1, Gr H H1 → xs[m]? = some x → Ts c1 ((wipe σ ws).set j (some x)) H1 (f m)) (he : ∀ (m : Nat) (x : V) H1, Gr H H1 → xs[m]? = some x → f m = true → Vl t1 ((wipe σ ws).set j (some x)) H1 (val m)) :
    Ls (tLc (iList K t2) (gName j) c1 t1 ws) σ H (out xs.length f val) := fun H0 Q g q => h H0 _ g fun H1 g1 => ⟨a, rfl, ⟨xs, (g.trans g1).sl s⟩, fun p hp =>
  lc_list (xs := xs) (Cmp H1 f val p) ⟨hp, .new hp, upd_same⟩ (fun _ H' _ w => ((g.trans g1).trans w.2.1).sl s) (fun m x H' hm w => ⟨hw x, w.turn (by have := (List.getElem?_eq_some_iff.mp hm).1; omega) (ht m x H1 (g.trans g1) hm) fun hf => he m x H1 (g.trans g1) hm hf⟩)
    fun H' w => q p H' (g1.free w.1) (g1.trans w.2.1) w.2.2⟩
theorem l_cmpN {xs : List V} {j : Nat} {ws : List Nat} (f : Nat → Bool) (val : Nat → V) (h : Ls t2 σ H xs) (hz : xs.length ≤ 40000) (hw : ∀ x, wipe ((wipe σ ws).set j (some x)) ws = wipe σ ws)
    (ht : ∀ (m : Nat) (x : V) H1, Gr H H1 → xs[m]? = some x → Ts c1 ((wipe σ ws).set j (some x)) H1 (f m)) (he : ∀ (m : Nat) (x : V) H1, Gr H H1 → xs[m]? = some x → f m = true → Vl t1 ((wipe σ ws).set j (some x)) H1 (val m)) :
    Ls (tLc (iList K t2) (gName j) c1 t1 ws) σ H (out xs.length f val) := fun H0 Q g q => h H0 _ g fun a H1 ha g1 hx => ⟨a, rfl, ⟨xs, SqL.of hx⟩, fun p hp =>
  lc_list (xs := xs) (Cmp H1 f val p) ⟨hp, .new hp, upd_same⟩ (fun _ H' _ w => SqL.of (w.2.1.lst hx)) (fun m x H' hm w => ⟨hw x, w.turn (by have := (List.getElem?_eq_some_iff.mp hm).1; omega) (ht m x H1 (g.trans g1) hm) fun hf => he m x H1 (g.trans g1) hm hf⟩)
    fun H' w => q p H' (g1.free w.1) (g1.trans w.2.1) w.2.2⟩
theorem s_yes : Ts tYes σ H true := fun H1 _ _ q => q H1 (.refl _)
end

theorem slots {u : TS} {D : Ends} {σ τ : L2.St} {H : Hp} (e : σ = τ) (h : u D τ H) : u D σ H := e ▸ h

/-! ### automatic steps -/
local macro_rules | `(tactic| walk_at "n") => `(tactic| (try (refine slots (by simp only [List.set_cons_zero, List.set_cons_succ]; exact rfl) ?_)))
local macro_rules | `(tactic| walk_at "ev") => `(tactic| first
  | exact v_slot rfl
  | exact v_con
  | (refine' v_op ?a ?b ?c; (case a => walk_at "ev"); (case b => walk_at "ev"); (case c => walk_at "rv"))
  | (refine' v_call ?a ?b; (case a => walk_at "ea"); (case b => walk_at "sv"))
  | (refine' v_isbB ?a; (case a => walk_at "ev"))
  | (refine' v_and ?a (fun _ => ?b); (case a => walk_at "ev"); (case b => walk_at "ev"))
  | (refine' v_or ?a (fun _ => ?b); (case a => walk_at "ev"); (case b => walk_at "ev"))
  | (refine' v_not ?a; (case a => walk_at "ev"))
  | (refine' v_max ?a ?b; (case a => walk_at "ev"); (case b => walk_at "ev"))
  | (refine' v_min ?a ?b; (case a => walk_at "ev"); (case b => walk_at "ev"))
  | (refine' v_intB ?a; (case a => walk_at "ev"))
  | (refine' v_len ?a ?b; (case a => walk_at "ev"); (case b => assumption))
  | assumption)
local macro_rules | `(tactic| walk_at "ea") => `(tactic| first
  | exact g_nil
  | (refine' g_cons ?a ?b; (case a => walk_at "ev"); (case b => walk_at "ea")))
local macro_rules | `(tactic| walk_at "rv") => `(tactic| first
  | exact bi_0
  | (refine' bi_C ?a; (case a => walk_at "side"))
  | (refine' bi_eq ?a; (case a => rfl))
  | (refine' bi_ne ?a; (case a => rfl))
  | exact bi_isN
  | exact bi_notN
  | assumption)
local macro_rules | `(tactic| walk_at "side") => `(tactic| first
  | (show _ ≠ _; first | decide | omega)
  | (show _ ∧ _; first | exact ⟨by decide, by decide⟩ | exact ⟨by decide, by decide, by decide⟩ | omega))
local macro_rules | `(tactic| walk_at "et") => `(tactic| first
  | (refine' s_test ?a; (case a => walk_at "ev"))
  | (refine' s_B ?a; (case a => walk_at "ev"))
  | (refine' s_truB ?a; (case a => walk_at "ev"))
  | (refine' s_and ?a (fun _ => ?b); (case a => walk_at "et"); (case b => walk_at "et"))
  | (refine' s_or ?a (fun _ => ?b); (case a => walk_at "et"); (case b => walk_at "et"))
  | (refine' s_not ?a; (case a => walk_at "et"))
  | exact s_yes)
local macro_rules | `(tactic| walk_at "set") => `(tactic| (refine' B_set ?h ?k; (case h => walk_at "ev")))
local macro_rules | `(tactic| walk_at "setE") => `(tactic| (refine' S_set ?h ?k; (case h => walk_at "ev")))
local macro_rules | `(tactic| walk_at "when") => `(tactic| (refine' B_when ?h ?k1 ?k2; (case h => walk_at "et")))
local macro_rules | `(tactic| walk_at "whenE") => `(tactic| (refine' S_when ?h ?k1 ?k2; (case h => walk_at "et")))
local macro_rules | `(tactic| walk_at "whenInt") => `(tactic| (refine' B_whenInt ?h1 ?h2 ?h3 ?k; (case h1 => walk_at "et"); (case h2 => rfl); (case h3 => walk_at "ev")))
local macro_rules | `(tactic| walk_at "ret") => `(tactic| (refine' S_ret ?h ?k; (case h => walk_at "ev")))


/-! ### == and != of lists that hold the same things; of a dict and a tuple -/
namespace XE
open PySem PySem.Spec PyProof.Rows L2 PySem.SeqAt
def plainV : V → Bool
  | .non | .bl _ | .int _ | .str _ | .ref _ => true
  | _ => false
theorem rel_same {A : Around} {s : Shared} {x : V} {u v : Value} (h : plainV x = true) (r : RelV x u) (q : RelV x v) : EqAt A s u v true := by
  cases x with
  | non => cases r; cases q; exact EqAt.same _
  | bl b => cases r; cases q; exact EqAt.same _
  | int i =>
    obtain ⟨t, rfl⟩ := r
    obtain ⟨t', rfl⟩ := q
    have := EqAt.int_int (A := A) (s := s) i t i t'
    simpa using this
  | str i =>
    obtain ⟨t, rfl⟩ := r
    obtain ⟨t', rfl⟩ := q
    have := EqAt.str_str (A := A) (s := s) i t i t'
    simpa using this
  | ref a => cases r; cases q; exact EqAt.same _
  | _ => cases h
theorem vals_same {A : Around} {s : Shared} {xs : List V} {us vs : List Value} (h : xs.all plainV = true) (r : Vals xs us) (q : Vals xs vs) (j : Nat) (h1 : j < us.toArray.size) (h2 : j < vs.toArray.size) : EqAt A s us.toArray[j] vs.toArray[j] true := by
  have hx : j < xs.length := by
    have := r.length
    simp at h1
    omega
  obtain ⟨u, hu, ru⟩ := r.get (List.getElem?_eq_getElem hx)
  obtain ⟨v, hv, rv⟩ := q.get (List.getElem?_eq_getElem hx)
  have eu : us.toArray[j] = u := by
    have := (List.getElem?_eq_some_iff.mp hu).2
    simpa using this
  have ev : vs.toArray[j] = v := by
    have := (List.getElem?_eq_some_iff.mp hv).2
    simpa using this
  rw [eu, ev]
  exact rel_same (List.all_eq_true.mp h _ (List.getElem_mem hx)) ru rv
def rSame (K : PySem.W.Frag) (b : Bool) : R2 := fun x y H Q => ∃ a c xs, x = .ref a ∧ y = .ref c ∧ SqL K H a xs ∧ SqL K H c xs ∧ xs.all plainV = true ∧ Q (.bl b) H
def rNil (K : PySem.W.Frag) : R2 := fun x y H Q => ∃ a c xs, x = .ref a ∧ y = .ref c ∧ SqL K H a xs ∧ SqL K H c [] ∧ Q (.bl (!xs.isEmpty)) H
def rDT (K : PySem.W.Frag) : R2 := fun x y H Q => ∃ a c kvs xs, x = .ref a ∧ y = .ref c ∧ H a = some (.dK kvs) ∧ SqT K H c xs ∧ Q (.bl true) H
def rNeX (K : PySem.W.Frag) : R2 := fun x y H Q => rNeD K x y H Q ∨ rSame K false x y H Q ∨ rNil K x y H Q ∨ rDT K x y H Q
def rNilE (K : PySem.W.Frag) : R2 := fun x y H Q => ∃ a c xs, x = .ref a ∧ y = .ref c ∧ SqL K H a xs ∧ SqL K H c [] ∧ Q (.bl xs.isEmpty) H
def rEqX (K : PySem.W.Frag) : R2 := fun x y H Q => rEqD K x y H Q ∨ rSame K true x y H Q ∨ rNilE K x y H Q
section
variable {X : Cx}
theorem all_true (n : Nat) : (List.range n).all (fun _ => true) = true := by simp
theorem dict_ne_tuple {prog : Program} {w : World} {A : Around} {E : Value → Shared → Prop} {s : Shared} {a b : Addr} {name : Str} {Q : Value → Shared → Prop} (sl : Slot "dict" name "dict.__ne__") (ta : s.TypeIs (.ref a) "dict") (tb : s.TypeIs (.ref b) "tuple") (h : Q .notImplemented s) :
    wpAny (model prog w) A (call (.builtin "dict.__ne__") [.ref a, .ref b]) Q E s := by
  refine wpAny_call_entry sl ta PySem.F.entry_dict_ne ?_ (PySem.F.args_dict_ne_2 _ _)
  show wpAny _ _ (Builtin.Dict.dictSlotArgs "__ne__" ⟨[.ref a, .ref b], []⟩ >>= _) _ _ s
  refine wpAny_bind ?_
  unfold Builtin.Dict.dictSlotArgs
  refine wpAny_bind (wpAny_notOrdered_dict ta ?_)
  show wpAny _ _ (pure (Value.ref a, Value.ref b)) _ _ s
  refine wpAny_pure ?_
  refine wpAny_bind (wpAny_isInstance (T := "tuple") tb PySem.F.sub_tuple_dict ?_)
  simp only [Bool.not_false, if_true]
  refine wpAny_bind (wpAny_rule ?_)
  exact wpAny_pure ⟨_, rfl, h⟩
theorem tuple_ne_declines_dict (l b : Addr) (items : Array Value) (n : Nat) (dd : Option Addr) (sl : Array (Option Value)) (ob : Obj) (hob : ob.cls = .type "dict") :
    Meets (Builtin.«tuple.__ne__» ⟨[.ref l, .ref b], []⟩) (fun _ R s => s.heap.get? l = some { cls := .type "tuple", dict := dd, data := .seq items n, slots := sl } ∧ s.heap.get? b = some ob ∧ R (.ok (.ret .notImplemented)) s) := by
  obtain ⟨cls, od, data, slots⟩ := ob
  simp only at hob
  subst hob
  exact .of_wp fun prog w A R s h => by obtain ⟨hp, g, d, tk, os⟩ := s; obtain ⟨hl, hb, h⟩ := h; have f1 := F.sub_dict_tuple; wp_walk using AutoSeq1.wpAny_loadPart' hl, AutoSeq1.wpAny_loadPart' hb; exact ⟨_, rfl, h⟩
theorem ne_dict_tuple {A : Around} {s : Shared} {a b : Addr} {items : Array Value} (ta : s.TypeIs (.ref a) "dict") (hb : s.heap.IsTuple b items) (hu : A.units < cLine) : RcNeAt A s (.ref a) (.ref b) true := fun prog w E Q h => by
  obtain ⟨oa, ea, ca⟩ := ta
  obtain ⟨⟨cls, dd, data, sl⟩, ho, hc, n, hd⟩ := id hb
  simp only at hc hd
  subst hc hd
  have hne : a ≠ b := fun z => by
    rw [z, ho] at ea
    obtain rfl := Option.some.inj ea
    exact absurd (Value.type.inj ca) (by decide)
  exact rc_ne_decline_or (k := false) ⟨_, ea, ca⟩ ⟨_, ho, rfl⟩ (by decide) F.sub_tuple_dict F.slot_dict_ne F.slot_tuple_ne_refl
    (fun _ hq => dict_ne_tuple F.slot_dict_ne ⟨_, ea, ca⟩ ⟨_, ho, rfl⟩ hq)
    (fun _ hq => call_meets F.slot_tuple_ne_refl ⟨_, ho, rfl⟩ F.entry_tuple_ne (F.args_tuple_ne_2 _ _) (tuple_ne_declines_dict b a items n dd sl oa ca) ⟨ho, ea, hq⟩)
    (fun _ hq => wpAny_isSame_ref_other hne ea ho (by rw [ca]; simp) hq) (.inr hu) h
theorem op_neX (hu : X.A.units + 64 < cLine) : OpR X (compareOp .NotEq) (rNeX X.K) := by
  intro pins s σ H x y v u Q I rx ry h
  have hu1 : X.A.units < cLine := Nat.lt_of_le_of_lt (Nat.le_add_right _ _) hu
  rcases h with h | ⟨a, c, xs, rfl, rfl, ha, hc, hp, q⟩ | ⟨a, c, xs, rfl, rfl, ha, hc, q⟩ | ⟨a, c, kvs, xs, rfl, rfl, ha, hc, q⟩
  · exact op_neD hu pins s σ H x y v u Q I rx ry h
  · cases rx
    cases ry
    obtain ⟨its, rv, hl, _⟩ := I.list ha
    obtain ⟨its2, rv2, hl2, _⟩ := I.list hc
    have sz : its.toArray.size = its2.toArray.size := by
      have := rv.length
      have := rv2.length
      simp
      omega
    refine RcNeAt.lists (e := fun _ => true) hl.isList hl2.isList sz hu1 (fun j h1 h2 => vals_same hp rv rv2 j h1 h2) _ _ _ _ ?_
    rw [all_true]
    exact ⟨.bl _, H, I, rfl, q⟩
  · cases rx
    cases ry
    obtain ⟨its, rv, hl, _⟩ := I.list ha
    obtain ⟨its2, rv2, hl2, _⟩ := I.list hc
    cases rv2
    cases xs with
    | nil =>
      cases rv
      refine RcNeAt.lists (e := fun _ => true) hl.isList hl2.isList rfl hu1 (fun j h1 h2 => absurd h1 (by simp)) _ _ _ _ ?_
      rw [all_true]
      exact ⟨.bl _, H, I, rfl, q⟩
    | cons z zs =>
      refine RcNeAt.lists_lengths hl.isList hl2.isList ?_ hu1 _ _ _ _ ?_
      · have := rv.length
        rw [List.length_cons] at this
        simp
        intro e
        rw [e] at this
        simp at this
      · exact ⟨.bl _, H, I, rfl, q⟩
  · cases rx
    cases ry
    obtain ⟨_, _, vs, _, hd⟩ : ObjOk X.prog X.w H s.heap a (.dK kvs) := I.hok a _ ha
    obtain ⟨its, rv, hl, _⟩ := I.tuple hc
    exact ne_dict_tuple hd.typeIs hl hu1 _ _ _ _ ⟨.bl _, H, I, rfl, q⟩
theorem op_eqX (hu : X.A.units + 64 < cLine) : OpR X (compareOp .Eq) (rEqX X.K) := by
  intro pins s σ H x y v u Q I rx ry h
  have hu1 : X.A.units < cLine := Nat.lt_of_le_of_lt (Nat.le_add_right _ _) hu
  rcases h with h | ⟨a, c, xs, rfl, rfl, ha, hc, hp, q⟩ | ⟨a, c, xs, rfl, rfl, ha, hc, q⟩
  · exact op_eqD hu pins s σ H x y v u Q I rx ry h
  · cases rx
    cases ry
    obtain ⟨its, rv, hl, _⟩ := I.list ha
    obtain ⟨its2, rv2, hl2, _⟩ := I.list hc
    have sz : its.toArray.size = its2.toArray.size := by
      have := rv.length
      have := rv2.length
      simp
      omega
    refine RcAt.lists (e := fun _ => true) hl.isList hl2.isList sz hu1 (fun j h1 h2 => vals_same hp rv rv2 j h1 h2) _ _ _ _ ?_
    rw [all_true]
    exact ⟨.bl _, H, I, rfl, q⟩
  · cases rx
    cases ry
    obtain ⟨its, rv, hl, _⟩ := I.list ha
    obtain ⟨its2, rv2, hl2, _⟩ := I.list hc
    cases rv2
    cases xs with
    | nil =>
      cases rv
      refine RcAt.lists (e := fun _ => true) hl.isList hl2.isList rfl hu1 (fun j h1 h2 => absurd h1 (by simp)) _ _ _ _ ?_
      rw [all_true]
      exact ⟨.bl _, H, I, rfl, q⟩
    | cons z zs =>
      refine RcAt.lists_lengths hl.isList hl2.isList ?_ hu1 _ _ _ _ ?_
      · have := rv.length
        rw [List.length_cons] at this
        simp
        intro e
        rw [e] at this
        simp at this
      · exact ⟨.bl _, H, I, rfl, q⟩
end
/-! the rules, told by values -/
section
variable {K : PySem.W.Frag} {H : Hp} {a c : Addr} {xs : List V}
theorem bi_neX {x y z : V} (h : Bi (rNeD K) x y H z) : Bi (rNeX K) x y H z := fun H1 Q g q => .inl (h H1 Q g q)
theorem bi_eqX {x y z : V} (h : Bi (rEqD K) x y H z) : Bi (rEqX K) x y H z := fun H1 Q g q => .inl (h H1 Q g q)
theorem bi_neS (h1 : SqL K H a xs) (h2 : SqL K H c xs) (p : xs.all plainV = true) : Bi (rNeX K) (.ref a) (.ref c) H (.bl false) := fun H1 Q g q => .inr (.inl ⟨a, c, xs, rfl, rfl, g.sl h1, g.sl h2, p, q H1 (.refl _)⟩)
theorem bi_eqS (h1 : SqL K H a xs) (h2 : SqL K H c xs) (p : xs.all plainV = true) : Bi (rEqX K) (.ref a) (.ref c) H (.bl true) := fun H1 Q g q => .inr (.inl ⟨a, c, xs, rfl, rfl, g.sl h1, g.sl h2, p, q H1 (.refl _)⟩)
theorem bi_neNil (h1 : SqL K H a xs) (h2 : SqL K H c []) : Bi (rNeX K) (.ref a) (.ref c) H (.bl (!xs.isEmpty)) := fun H1 Q g q => .inr (.inr (.inl ⟨a, c, xs, rfl, rfl, g.sl h1, g.sl h2, q H1 (.refl _)⟩))
theorem bi_eqNil (h1 : SqL K H a xs) (h2 : SqL K H c []) : Bi (rEqX K) (.ref a) (.ref c) H (.bl xs.isEmpty) := fun H1 Q g q => .inr (.inr ⟨a, c, xs, rfl, rfl, g.sl h1, g.sl h2, q H1 (.refl _)⟩)
theorem bi_neDT {kvs : List (Key × V)} (h1 : H a = some (.dK kvs)) (h2 : SqT K H c xs) : Bi (rNeX K) (.ref a) (.ref c) H (.bl true) := fun H1 Q g q => .inr (.inr (.inr ⟨a, c, kvs, xs, rfl, rfl, g.at_ h1 (fun _ e => by cases e), g.st h2, q H1 (.refl _)⟩))
end
end XE

/-- a def whose code object is known by its place -/
theorem fun_okC {P : Program} {w : World} {K : PySem.W.Frag} {mg : Str → Option Value} {base : Heap} {x z : Str} {st : Stmt} {f c : Addr} {fd : FuncData} {N ps : List Str} {k : Nat} {sp : Sp} (F : Fun K x z st f fd) (hc : fd.code = .ref c) (S : FnScope N ps (defScope st)) (len : ∀ vs H Q E, sp vs H Q E → vs.length = ps.length)
    (body : ∀ (A : Around) (outer : List Env) (s : Shared) (H : Hp) (vs : List V) (Q : VK) (E : XK), Room k (A.deeper (PyProof.Rows.envOfC z (defScope st) s.heap.objs.size f (.ref c))) → sp vs H Q E →
      ∃ t, PSs (cxOf CX0 P w K mg base N z (defScope st) f (.ref c) A outer s H E).nox (defBody st) t ∧ t { nx := fun _ H' => Q .non H', rt := Q } (start N vs) H) : FnOk P w K mg base CX0 (k + 1) f fd ps sp := by
  obtain ⟨oc, od, kV, doc, pm, an, cv, ct, osl, rfl, lk, hcd⟩ := F.ex
  have e : cv = .ref c := hc
  subst e
  refine fn_of lk hcd S len fun A outer s H vs Q E hr hsp => ?_
  obtain ⟨t, h, q⟩ := body A outer s H vs Q E hr hsp
  exact ⟨t, h.nox, q⟩

/-! ### comprehensions over a text; data; what is no text -/
section
variable {K : PySem.W.Frag} {σ : L2.St} {H H' : Hp} {t1 t2 t3 : TE} {c1 c2 : TT} {x y z v : V}
theorem l_cmpS {w : Str} {j : Nat} {ws : List Nat} (f : Nat → Bool) (val : Nat → V) (h : Vl t2 σ H (.str w)) (hz : w.cps.size ≤ 40000) (hw : ∀ x, wipe ((wipe σ ws).set j (some x)) ws = wipe σ ws)
    (ht : ∀ (m k : Nat) H1, Gr H H1 → w.cps[m]? = some k → Ts c1 ((wipe σ ws).set j (some (.str ⟨#[k]⟩))) H1 (f m)) (he : ∀ (m k : Nat) H1, Gr H H1 → w.cps[m]? = some k → f m = true → Vl t1 ((wipe σ ws).set j (some (.str ⟨#[k]⟩))) H1 (val m)) :
    Ls (tLc (iStr t2) (gName j) c1 t1 ws) σ H (out w.cps.size f val) := fun H0 Q g q => h H0 _ g fun H1 g1 => ⟨w, rfl, fun p hp =>
  lc_it walk_str (Cmp H1 f val p) ⟨hp, .new hp, upd_same⟩ (fun _ _ _ _ => trivial) (fun m x Ha Hb hm w0 ⟨e, k, hk, ex⟩ => by
    subst e
    subst ex
    exact ⟨hw _, w0.turn (by omega) (ht m k H1 (g.trans g1) hk) fun hf => he m k H1 (g.trans g1) hk hf⟩) fun H' w0 => q p H' (g1.free w0.1) (g1.trans w0.2.1) w0.2.2⟩
theorem dps_str : ∀ l : List Str, DpAll K H (l.map V.str) (l.map PyData.str)
  | [] => .nil
  | a :: l => .cons (.str a) (dps_str l)
/-- plain signs alone -/
def Asc (z : Str) : Prop := ∀ k ∈ z.cps.toList, k < 128
theorem Asc.ok {z : Str} (h : Asc z) : PyData.strOk z = true := by
  unfold PyData.strOk
  rw [← Array.all_toList, List.all_eq_true]
  intro k hk
  have := h k hk
  exact decide_eq_true (by omega)
theorem Asc.cat {a b : Str} (ha : Asc a) (hb : Asc b) : Asc (a ++ b) := by
  intro k hk
  have e : (a ++ b).cps.toList = a.cps.toList ++ b.cps.toList := Array.toList_append
  rw [e] at hk
  rcases List.mem_append.mp hk with h | h
  · exact ha k h
  · exact hb k h
theorem Asc.cut {a : Str} (ha : Asc a) (lo hi : Option Int) : Asc (cutS a lo hi) := by
  intro k hk
  exact ha k (List.mem_of_mem_drop (List.mem_of_mem_take hk))
theorem Asc.one {k : Nat} (h : k < 128) : Asc ⟨#[k]⟩ := by
  intro j hj
  rw [List.mem_singleton.mp hj]
  exact h
theorem cut_len (a : Str) (lo hi : Option Int) : (cutS a lo hi).length ≤ a.length := by
  show ((_ : List Nat).toArray).size ≤ a.cps.size
  rw [List.size_toArray]
  refine Nat.le_trans (List.length_take_le' _ _) ?_
  rw [List.length_drop, Array.length_toList]
  omega
theorem cat_len (a b : Str) : (a ++ b).length = a.length + b.length := Array.size_append
theorem canLay_strs : ∀ l : List Str, (∀ a ∈ l, Asc a) → PyData.canLayAll0 (l.map PyData.str) = true
  | [], _ => by simp [PyData.canLayAll0]
  | a :: l, h => by
    have t := canLay_strs l fun b hb => h b (List.mem_cons_of_mem _ hb)
    have t2 := (h a List.mem_cons_self).ok
    simp [PyData.canLayAll0, PyData.canLay0, t, t2]
theorem depth_strs : ∀ l : List Str, PyData.depthAll (l.map PyData.str) = 0
  | [] => by simp [PyData.depthAll]
  | a :: l => by
    have := depth_strs l
    simp [PyData.depthAll, PyData.depth, this]
theorem shaped_strs (l : List Str) (h : ∀ a ∈ l, Asc a) : SeqAt.shaped (.list (l.map PyData.str)) = true := by
  unfold SeqAt.shaped
  simp [PyData.canLay0, PyData.depth, canLay_strs l h, depth_strs l]
theorem eqv_nil (ds : List PyData) : PyData.eqv (.list ds) (.list []) = ds.isEmpty := by
  cases ds <;> simp [PyData.eqv, PyData.eqvAll]

theorem Gr.tyOf {t : Value} (g : Gr H H') (h : TyOf K H v t) : TyOf K H' v t := by
  cases h with
  | non => exact .non
  | bl x => exact .bl x
  | int i => exact .int i
  | str x => exact .str x
  | flt x => exact .flt x
  | lst e => exact .lst (g.lst e)
  | frz e => exact .frz (g.at_ e fun _ z => by cases z)
  | tup e => exact .tup (g.tup e)
  | dK e => exact .dK (g.at_ e fun _ z => by cases z)
  | dT e => exact .dT (g.at_ e fun _ z => by cases z)
  | ins e a b c d f => exact .ins (g.ins e) a b c d f
theorem Gr.tyX {t : Value} (g : Gr H H') (h : TyX K H v t) : TyX K H' v t := by
  cases h with
  | base h => exact .base (g.tyOf h)
  | byt b => exact .byt b
  | set e => exact .set (g.at_ e fun _ z => by cases z)
  | kList e c => exact .kList e c
  | kTuple e c => exact .kTuple e c
  | kDict e c => exact .kDict e c
  | fTuple e => exact .fTuple (g.at_ e fun _ z => by cases z)
  | fDict e => exact .fDict (g.at_ e fun _ z => by cases z)
/-- a thing of a known kind that is no text -/
def NoStr (K : PySem.W.Frag) (v : V) (H : Hp) : Prop := ∃ n : String, TyX K H v (.type n) ∧ PySem.W.kitOne K (.type n) (.type "str") = some false
theorem NoStr.mono (g : Gr H H') (h : NoStr K v H) : NoStr K v H' := let ⟨n, a, b⟩ := h; ⟨n, g.tyX a, b⟩
theorem NoStr.non : NoStr K .non H := ⟨_, .base .non, kit_ty (by decide +kernel)⟩
theorem NoStr.bl {b : Bool} : NoStr K (.bl b) H := ⟨_, .base (.bl b), kit_ty (by decide +kernel)⟩
theorem NoStr.int {i : Int} : NoStr K (.int i) H := ⟨_, .base (.int i), kit_ty (by decide +kernel)⟩
theorem NoStr.lst {a : Addr} {xs : List V} (h : H a = some (.lst xs)) : NoStr K (.ref a) H := ⟨_, .base (.lst h), kit_ty (by decide +kernel)⟩
theorem NoStr.tup {a : Addr} {xs : List V} (h : H a = some (.tup xs)) : NoStr K (.ref a) H := ⟨_, .base (.tup h), kit_ty (by decide +kernel)⟩
theorem NoStr.dK {a : Addr} {xs : List (Key × V)} (h : H a = some (.dK xs)) : NoStr K (.ref a) H := ⟨_, .base (.dK h), kit_ty (by decide +kernel)⟩
theorem v_nostr (h : Vl t1 σ H v) (n : NoStr K v H) : Vl (tCB (rIsi K) (tCons t1 (tCons (tC (.ty "str")) tNil))) σ H (.bl false) := by
  obtain ⟨k, a, b⟩ := n
  exact v_isi h v_con (.ty _) (fun _ g => g.tyX a) b
/-- displays whose items are no texts -/
def NoStrs (K : PySem.W.Frag) (n : Nat) (vs : List V) (H : Hp) : Prop := vs.length = n ∧ ∀ v ∈ vs, NoStr K v H
theorem a_nil : Ar tNil σ H (NoStrs K 0) := fun H1 _ _ q => q [] H1 (.refl _) ⟨rfl, fun _ h => absurd h List.not_mem_nil⟩
theorem a_cons {a1 : TA} {n : Nat} (h : Vr t1 σ H (NoStr K)) (k : Ar a1 σ H (NoStrs K n)) : Ar (tCons t1 a1) σ H (NoStrs K (n + 1)) := fun H1 Q g q => h H1 _ g fun v H2 g2 hv => k H2 _ (g.trans g2) fun vs H3 g3 ⟨hl, ha⟩ => q (v :: vs) H3 (g2.trans g3) ⟨by rw [List.length_cons, hl], fun u hu => by
  rcases List.mem_cons.mp hu with e | e
  · rw [e]
    exact hv.mono g3
  · exact ha u e⟩
theorem vr_v {n : V} (h : Vl t1 σ H n) (k : ∀ H1, NoStr K n H1) : Vr t1 σ H (NoStr K) := fun H1 Q g q => h H1 _ g fun H2 g2 => q n H2 g2 (k H2)
theorem vr_l {xs : List V} (h : Ls t1 σ H xs) : Vr t1 σ H (NoStr K) := fun H1 Q g q => h H1 _ g fun p H2 _ g2 e => q _ H2 g2 (.lst e)
theorem vr_u {xs : List V} (h : Tu t1 σ H xs) : Vr t1 σ H (NoStr K) := fun H1 Q g q => h H1 _ g fun p H2 _ g2 e => q _ H2 g2 (.tup e)
theorem r_lst {a1 : TA} {R : List V → Hp → Prop} (h : Ar a1 σ H R) (n : ∀ vs H1, R vs H1 → vs.length ≤ 100000) (mono : ∀ {vs H1 H2}, Gr H1 H2 → R vs H1 → R vs H2) : Vr (tLst a1) σ H (fun v H1 => ∃ p vs, v = .ref p ∧ H1 p = some (.lst vs) ∧ R vs H1) := fun H1 Q g q => h H1 _ g fun vs H2 g2 hv =>
  ⟨small (n vs H2 hv), fun p hp => q _ _ (g2.trans (.new hp)) ⟨p, vs, rfl, upd_same, mono (.new hp) hv⟩⟩
theorem r_ix {i : Int} {R S : V → Hp → Prop} (h : Vr t1 σ H R) (k : ∀ H1, Gr H H1 → Vl t2 σ H1 (.int i)) (o : ∀ v H1, Gr H H1 → R v H1 → ∃ p xs u, v = .ref p ∧ H1 p = some (.lst xs) ∧ atI xs i = some u ∧ S u H1) (mono : ∀ {u H1 H2}, Gr H1 H2 → S u H1 → S u H2) : Vr (tOp (rIxL K) t1 t2) σ H S := fun H1 Q g q =>
  h H1 _ g fun v H2 g2 hv => by
    obtain ⟨p, xs, u, e, hp, hu, hs⟩ := o v H2 (g.trans g2) hv
    exact k H2 (g.trans g2) H2 _ (.refl _) fun H3 g3 => ⟨p, xs, i, u, e, rfl, SqL.of (g3.lst hp), hu, q u H3 (g2.trans g3) (mono g3 hs)⟩
end
section
variable {σ : L2.St} {H : Hp} {t1 : TE}
theorem v_slS {w : Str} {tl th : TO} {lo hi : Option Int} (h : Vl t1 σ H (.str w)) (h1 : Pt tl σ H lo) (h2 : Pt th σ H hi) (s : w.length ≤ 100000) : Vl (tSl (fun x lo hi H Q => ∃ z, x = .str z ∧ z.length ≤ sizeLine ∧ Q (.str (cutS z lo hi)) H) t1 tl th) σ H (.str (cutS w lo hi)) := fun H1 _ g q =>
  h H1 _ g fun H2 g2 => h1 H2 _ (g.trans g2) fun H3 g3 => h2 H3 _ ((g.trans g2).trans g3) fun H4 g4 => ⟨w, rfl, small s, q H4 ((g2.trans g3).trans g4)⟩
end
theorem fmod_in (c : Int) {m : Int} (h : 0 < m) : 0 ≤ c.fmod m ∧ c.fmod m < m := ⟨Int.fmod_nonneg_of_pos c h, Int.fmod_lt_of_pos c h⟩
theorem atI_in {α : Type} (d : α) {l : List α} {i : Int} (h0 : 0 ≤ i) (h : i < l.length) : atI l i = some (l.getD i.toNat d) := by
  have hn : i.toNat < l.length := by omega
  have e := atI_nat (xs := l) (j := i.toNat) (v := l.getD i.toNat d) (by rw [List.getD_eq_getElem?_getD, List.getElem?_eq_getElem hn]; rfl)
  rw [Int.toNat_of_nonneg h0] at e
  exact e
/-! ### names -/
def signs : Str := "abcdefghijklmnopqrstuvwxyz0123456789"
def nameB (z : Str) : Bool := (decide (1 ≤ (z.length : Int)) && decide ((z.length : Int) ≤ 12)) && z.cps.toList.all fun k => decide (k ∈ signs.cps.toList)
def wishB (z : Str) : Bool := inV (.str z) [V.str (Str.ofString "read"), V.str (Str.ofString "write")]
theorem wish_is (z : Str) : wishB z = (decide (V.str z = V.str (Str.ofString "read")) || decide (V.str z = V.str (Str.ofString "write"))) := by
  unfold wishB inV
  rw [List.any_cons, List.any_cons, List.any_nil, Bool.or_false]
  have e : ∀ a b : Str, eqV (.str a) (.str b) = decide (V.str b = V.str a) := fun a b => by
    rw [dec_str]
    exact Bool.beq_comm ..
  rw [e, e]

theorem bi_notInS {k : Nat} {w : Str} {H : Hp} : Bi rNotInS (.str ⟨#[k]⟩) (.str w) H (.bl (!decide (k ∈ w.cps.toList))) := fun H1 _ _ q => ⟨k, w, rfl, rfl, q H1 (.refl _)⟩
theorem bi_inS {k : Nat} {w : Str} {H : Hp} : Bi rInS (.str ⟨#[k]⟩) (.str w) H (.bl (decide (k ∈ w.cps.toList))) := fun H1 _ _ q => ⟨k, w, rfl, rfl, q H1 (.refl _)⟩
theorem none_out (l : List Nat) (p : Nat → Bool) : ((List.range l.length).filter fun m => !p (l.getD m 0)).isEmpty = l.all p := by
  rw [Bool.eq_iff_iff, List.isEmpty_iff, List.filter_eq_nil_iff, List.all_eq_true]
  constructor
  · intro h k hk
    obtain ⟨m, hm, e⟩ := List.getElem_of_mem hk
    have := h m (List.mem_range.mpr hm)
    rw [List.getD_eq_getElem?_getD, List.getElem?_eq_getElem hm, e] at this
    simpa using this
  · intro h m hm
    have hm' := List.mem_range.mp hm
    rw [List.getD_eq_getElem?_getD, List.getElem?_eq_getElem hm']
    have := h _ (List.getElem_mem hm')
    simpa using this
theorem cps_getD {w : Str} {m k : Nat} (h : w.cps[m]? = some k) : w.cps.toList.getD m 0 = k := by
  rw [List.getD_eq_getElem?_getD, Array.getElem?_toList, h]
  rfl

/-! ### more steps: an enumerated list, an item's field, a method that gives nothing -/
section
variable {K : PySem.W.Frag} {σ : L2.St} {H H' : Hp} {t1 t2 t3 : TE} {c1 c2 : TT} {x y z v : V} {D : Ends} {u1 u2 : TS} {g1 : TG}
theorem B_forE {a : Addr} {xs : List V} (h : Vl t1 σ H (.ref a)) (s : SqL K H a xs) (Pv : Nat → L2.St → Hp → Prop) (h0 : ∀ H1, Gr H H1 → Pv 0 σ H1) (hl : ∀ m σ' H', m ≤ xs.length → Pv m σ' H' → SqL K H' a xs)
    (hs : ∀ m x T σ' H', xs[m]? = some x → Pv m σ' H' → H' T = none → g1 (.ref T) σ' (upd H' T (.tup [.int (m : Nat), x])) fun σ2 H2 => u1 { D with nx := Pv (m + 1), ct := Pv (m + 1), bk := u2 D } σ2 H2) (hd : ∀ σ' H', Pv xs.length σ' H' → u2 D σ' H') : tSeq (tFor (iEnum K (tCons t1 tNil)) g1 u1) u2 D σ H :=
  h H _ (.refl _) fun H1 g => ⟨a, xs, rfl, g.sl s, for_it (D := { D with nx := u2 D }) walk_enum Pv (h0 H1 g) hl (fun m v σ' Ha Hb hm p ⟨T, i, w, ev, hT, eH, ei, ew⟩ => by
    subst ev
    subst eH
    cases ei
    exact hs m w T σ' Ha ew p hT) hd⟩
theorem v_fld {l p : Addr} {vs ts : List V} {m : Nat} {i : Int} (hl : SqL K H l vs) (hv : vs[m]? = some (.ref p)) (hp : H p = some (.tup ts)) (hf : atI ts i = some v) (a : Vl t1 σ H (.ref l)) (d : Vl t2 σ H (.int (m : Nat))) :
    Vl (tOp (rIxT K) (tOp (rIxL K) t1 t2) (tC (.int i))) σ H v := v_op (v_op a d (bi_ixL hl (atI_nat hv))) v_con (bi_ixT (SqT.of hp) hf)
theorem Tu.toR {xs : List V} (h : Tu t1 σ H xs) : Vr t1 σ H (fun u H2 => ∃ p, u = .ref p ∧ H2 p = some (.tup xs)) := fun H1 Q g q => h H1 Q g fun p H2 _ g2 e => q _ H2 g2 ⟨p, rfl, e⟩
/-- xs.insert(0, e), the item a new tuple -/
abbrev rIns0 : V → List V → Hp → VK → Prop := fun x vs H Q => ∃ (l : Addr) (xs : List V) (i : Int) (y : V), x = .ref l ∧ vs = [.int i, y] ∧ H l = some (.lst xs) ∧ xs.length < sizeLine ∧ 0 ≤ i ∧ i < 2 ^ 63 ∧ Q .non (upd H l (.lst (xs.take i.toNat ++ [y] ++ xs.drop i.toNat)))
theorem B_ins0U {l : Addr} {xs ts : List V} (hl : H l = some (.lst xs)) (a : Vl t1 σ H (.ref l)) (h : Tu t2 σ H ts) (n : xs.length < 100000) (k : ∀ p H1, H p = none → Gr H H1 → H1 p = some (.tup ts) → u1 D σ (upd H1 l (.lst (.ref p :: xs)))) :
    tSeq (tDrop (tBM K "list" rIns0 t1 (tCons (tC (.int 0)) (tCons t2 tNil)))) u1 D σ H := a H _ (.refl _) fun H1 g =>
  ⟨.inl ⟨rfl, xs, SqL.of (g.lst hl)⟩, h H1 _ g fun p H2 hp g2 e => ⟨l, xs, 0, .ref p, rfl, rfl, g2.lst (g.lst hl), small' n, by decide, by decide, k p H2 (g.free hp) (g.trans g2) e⟩⟩
theorem B_pop0 {l : Addr} {xs : List V} (hl : H l = some (.lst (y :: xs))) (a : Vl t1 σ H (.ref l)) (k : ∀ H1, Gr H H1 → u1 D σ (upd H1 l (.lst xs))) : tSeq (tDrop (tBM K "list" rPopAt t1 (tCons (tC (.int 0)) tNil))) u1 D σ H := a H _ (.refl _) fun H1 g =>
  ⟨.inl ⟨rfl, _, SqL.of (g.lst hl)⟩, l, y :: xs, 0, 0, y, rfl, rfl, g.lst hl, by decide, by decide, by
    unfold seqIndex?
    simp, rfl, k H1 g⟩
end
/-- sep.join(a list or a tuple of texts) -/
abbrev rJoin (K : PySem.W.Frag) : V → List V → Hp → VK → Prop := fun x xs H Q => ∃ a p, ∃ ys : List Str, x = .str a ∧ xs = [.ref p] ∧ (SqL K H p (ys.map V.str) ∨ SqT K H p (ys.map V.str)) ∧ (ys.map (·.length)).sum + ys.length * a.length ≤ 16777216 ∧ Q (.str (Txt.join a ys)) H
theorem out_filter {α : Type} (l : List α) (p : α → Bool) (g : α → V) (f : Nat → Bool) (val : Nat → V) (hf : ∀ m x, l[m]? = some x → f m = p x ∧ val m = g x) : out l.length f val = (l.filter p).map g := by
  have key : ∀ n, n ≤ l.length → out n f val = ((l.take n).filter p).map g := by
    intro n
    induction n with
    | zero => exact fun _ => rfl
    | succ n ih =>
      intro hn
      have h := hf n _ (List.getElem?_eq_getElem (show n < l.length by omega))
      rw [out_succ, ih (by omega), List.take_succ, List.getElem?_eq_getElem (show n < l.length by omega), Option.toList_some, List.filter_append, List.map_append, h.1, h.2, List.filter_cons]
      cases p l[n] <;> rfl
  have := key l.length (Nat.le_refl _)
  rw [List.take_length] at this
  exact this
theorem not_tup {H : Hp} {a : Addr} {kvs : List (Key × V)} (h : H a = some (.dK kvs)) : ∀ ts, H a ≠ some (.tup ts) := fun ts z => by
  rw [h] at z
  cases z
/-- tuples kept by a comprehension -/

abbrev rd : Str := "read"
abbrev wr : Str := "write"
/-! ### the law's readers of the script -/
def cellAt (ns : List Int) (k : Nat) : Int := ns.getD k 0
def spCell (K : PySem.W.Frag) : Sp := fun vs H Q _ => ∃ (a : Addr) (ns : List Int) (k : Nat), vs = [.ref a, .int (k : Int)] ∧ SqL K H a (ns.map V.int) ∧ RV (.int (cellAt ns k)) H Q
theorem sv_cell {K : PySem.W.Frag} {H : Hp} {a : Addr} {ns : List Int} {i : Int} (k : Nat) (e : i = (k : Int)) (h : SqL K H a (ns.map V.int)) : SpV (spCell K) [.ref a, .int i] H (.int (cellAt ns k)) := fun H1 Q E g q => ⟨a, ns, k, by rw [e], g.sl h, q⟩
def numBy (c l : Int) : Int :=
  if c.fmod 8 < 3 then l + c.fmod 8 else
  if c.fmod 8 = 3 then l + (c.fdiv 8).fmod 9 else
  if c.fmod 8 = 4 then 10 ^ 9 else
  if c.fmod 8 = 5 then l + (c.fdiv 8).fmod (10 ^ 9 + 1 - l) else
  l + (c.fdiv 8).fmod (if c.fmod 8 = 6 then 60 else 300)
theorem numBy_in (c l : Int) (hl : l = 0 ∨ l = 1) : l ≤ numBy c l ∧ numBy c l ≤ 10 ^ 9 := by
  have h1 := fmod_in c (m := 8) (by decide)
  have h2 := fmod_in (c.fdiv 8) (m := 9) (by decide)
  have h3 := fmod_in (c.fdiv 8) (m := 10 ^ 9 + 1 - l) (by omega)
  have h4 := fmod_in (c.fdiv 8) (m := (if c.fmod 8 = 6 then 60 else 300)) (by split <;> decide)
  unfold numBy
  split
  · omega
  split
  · omega
  split
  · omega
  split
  · omega
  have : (if c.fmod 8 = 6 then (60:Int) else 300) ≤ 300 := by split <;> decide
  omega
def spNum : Sp := fun vs H Q _ => ∃ (c l : Int), vs = [.int c, .int l] ∧ (l = 0 ∨ l = 1) ∧ RV (.int (numBy c l)) H Q
theorem sv_num {H : Hp} {c l : Int} (h : l = 0 ∨ l = 1) : SpV spNum [.int c, .int l] H (.int (numBy c l)) := fun H1 Q E g q => ⟨c, l, rfl, h, q⟩
/-- a new list of so many plain texts -/
def Names (n : Nat) (v : V) (H : Hp) : Prop := ∃ (p : Addr) (ss : List Str), v = .ref p ∧ H p = some (.lst (ss.map V.str)) ∧ ss.length = n ∧ ∀ s ∈ ss, nameB s = true
theorem Names.mono {n : Nat} {v : V} {H H' : Hp} (g : Gr H H') (h : Names n v H) : Names n v H' := let ⟨p, ss, a, b, c⟩ := h; ⟨p, ss, a, g.lst b, c⟩
/-- the same; if they are few, no two are alike -/
def NamesD (n : Nat) (v : V) (H : Hp) : Prop := ∃ (p : Addr) (ss : List Str), v = .ref p ∧ H p = some (.lst (ss.map V.str)) ∧ ss.length = n ∧ (∀ s ∈ ss, nameB s = true) ∧ (n ≤ 4 → ss.Nodup)
theorem NamesD.names {n : Nat} {v : V} {H : Hp} (h : NamesD n v H) : Names n v H := let ⟨p, ss, a, b, c, d, _⟩ := h; ⟨p, ss, a, b, c, d⟩
def spPeople : Sp := fun vs H Q _ => ∃ (c : Int) (n : Nat), vs = [.int c, .int (n : Int)] ∧ n ≤ 400 ∧ RR_ (NamesD n) H Q
theorem sr_people {H : Hp} {c i : Int} (n : Nat) (e : i = (n : Int)) (h : n ≤ 400) : SpR spPeople [.int c, .int i] H (Names n) := fun H1 Q E g q => ⟨c, n, by rw [e], h, fun v H2 g2 k => q v H2 g2 k.names⟩
theorem sr_peopleD {H : Hp} {c i : Int} (n : Nat) (e : i = (n : Int)) (h : n ≤ 400) : SpR spPeople [.int c, .int i] H (NamesD n) := fun H1 Q E g q => ⟨c, n, by rw [e], h, q⟩
theorem names_out {n : Nat} {s : Nat → Str} (h : ∀ m, m < n → nameB (s m) = true) (d : n ≤ 4 → ∀ i j, i < n → j < n → s i = s j → i = j) {p : Addr} {H : Hp} (hp : H p = some (.lst (out n (fun _ => true) fun m => V.str (s m)))) : NamesD n (.ref p) H := by
  refine ⟨p, (List.range n).map s, rfl, ?_, by rw [List.length_map, List.length_range], ?_, fun hn => ?_⟩
  · rw [hp]
    unfold out
    rw [List.map_map, List.filter_eq_self.mpr (fun _ _ => rfl)]
    rfl
  · intro z hz
    obtain ⟨m, hm, rfl⟩ := List.mem_map.mp hz
    exact h m (List.mem_range.mp hm)
  · exact List.pairwise_map.mpr (List.Pairwise.imp_of_mem (fun hi hj ne e => ne (d hn _ _ (List.mem_range.mp hi) (List.mem_range.mp hj) e)) List.nodup_range)
theorem str_cancel {a b c d : Str} (h : a ++ b ++ c = a ++ d ++ c) : b = d := by
  have t : ∀ u v : Str, (u ++ v).cps.toList = u.cps.toList ++ v.cps.toList := fun u v => Array.toList_append
  have h1 : (a ++ b ++ c).cps.toList = (a ++ d ++ c).cps.toList := congrArg (fun u : Str => u.cps.toList) h
  rw [t, t, t, t] at h1
  have h2 := List.append_cancel_left (List.append_cancel_right h1)
  cases b
  cases d
  exact congrArg Str.mk (Array.toList_inj.mp h2)
theorem sign_inj {i j : Nat} (hi : i < 36) (hj : j < 36) (h : signs.cps.toList.getD i 0 = signs.cps.toList.getD j 0) : i = j := by
  have key : ∀ i, i < 36 → ∀ j, j < 36 → signs.cps.toList.getD i 0 = signs.cps.toList.getD j 0 → i = j := by decide +kernel
  exact key i hi j hj h
/-- the signs of names alone -/
def Sg (z : Str) : Prop := ∀ k ∈ z.cps.toList, k ∈ signs.cps.toList
theorem sg_asc : ∀ k ∈ signs.cps.toList, k < 128 := by decide +kernel
theorem Sg.asc {z : Str} (h : Sg z) : Asc z := fun k hk => sg_asc k (h k hk)
theorem Sg.cat {a b : Str} (ha : Sg a) (hb : Sg b) : Sg (a ++ b) := by
  intro k hk
  have e : (a ++ b).cps.toList = a.cps.toList ++ b.cps.toList := Array.toList_append
  rw [e] at hk
  exact (List.mem_append.mp hk).elim (ha k) (hb k)
theorem Sg.cut {a : Str} (ha : Sg a) (lo hi : Option Int) : Sg (cutS a lo hi) := fun k hk => ha k (List.mem_of_mem_drop (List.mem_of_mem_take hk))
theorem Sg.one {k : Nat} (h : k ∈ signs.cps.toList) : Sg ⟨#[k]⟩ := fun j hj => by
  rw [List.mem_singleton.mp hj]
  exact h
theorem nameB_of {z : Str} (h1 : 1 ≤ z.length) (h2 : z.length ≤ 12) (h3 : Sg z) : nameB z = true := by
  unfold nameB
  rw [decide_eq_true (show (1 : Int) ≤ (z.length : Int) by omega), decide_eq_true (show (z.length : Int) ≤ 12 by omega), Bool.and_true, Bool.true_and, List.all_eq_true]
  exact fun k hk => decide_eq_true (h3 k hk)
theorem nameB_is {z : Str} (h : nameB z = true) : 1 ≤ z.length ∧ z.length ≤ 12 ∧ Sg z := by
  unfold nameB at h
  simp only [Bool.and_eq_true, decide_eq_true_eq, List.all_eq_true] at h
  exact ⟨by omega, by omega, h.2⟩
theorem cut_to (z : Str) (k : Nat) : (cutS z none (some (k : Int))).length = min k z.length := by
  show ((_ : List Nat).toArray).size = _
  rw [List.size_toArray, HT.sIx_nat, HT.sIx_none, List.length_take, List.length_drop, Array.length_toList]
  show min (min k z.length - 0) (z.length - 0) = _
  omega
theorem cut_from (z : Str) (k : Nat) : (cutS z (some (k : Int)) none).length = z.length - min k z.length := by
  show ((_ : List Nat).toArray).size = _
  rw [List.size_toArray, HT.sIx_nat, HT.sIx_none, List.length_take, List.length_drop, Array.length_toList]
  show min (z.length - min k z.length) (z.length - min k z.length) = _
  omega
theorem sign_at (n : Nat) (h : n < 36) : signs.cps.toList.getD n 0 ∈ signs.cps.toList := by
  have l : signs.cps.toList.length = 36 := by decide +kernel
  rw [List.getD_eq_getElem?_getD, List.getElem?_eq_getElem (by omega)]
  exact List.getElem_mem _
theorem sign_mod (c : Int) : signs.cps.toList.getD (c.fmod 36).toNat 0 ∈ signs.cps.toList := sign_at _ (by have := fmod_in c (m := 36) (by decide); omega)
theorem num_text : ∀ k : Nat, k < 400 → 1 ≤ (toString (k : Int) : Str).length ∧ (toString (k : Int) : Str).length ≤ (if k < 100 then 2 else 3) ∧ Sg (toString (k : Int)) := by
  unfold Sg
  decide +kernel
theorem num_len (k : Nat) (h : k < 400) : (toString (k : Int) : Str).length ≤ 3 := by
  have := (num_text k h).2.1
  split at this <;> omega
theorem num_small {m : Nat} (h : m < 400) : ((m : Int)).natAbs.log2 < 1920 := by
  have e : ((m : Int)).natAbs = m := Int.natAbs_natCast m
  rw [e]
  exact Nat.lt_of_le_of_lt (Nat.log2_le_self m) (by omega)
/-- a sign of a written text -/
theorem sign_in {w : Str} (n : Nat) (h : (w.cps.toList.all fun k => decide (k < 128)) = true) : w.cps.toList.getD n 0 < 128 := by
  rw [List.getD_eq_getElem?_getD]
  cases e : w.cps.toList[n]? with
  | none => show 0 < 128; decide
  | some k => exact of_decide_eq_true (List.all_eq_true.mp h k (List.mem_of_getElem? e))
theorem bi_sign {w : Str} {c : Int} {n : Nat} {H : Hp} (hn : w.length = n) (h0 : 0 < n) (s : n ≤ 100000) : Bi rIxS (.str w) (.int (c.fmod n)) H (.str ⟨#[w.cps.toList.getD (c.fmod n).toNat 0]⟩) :=
  bi_ixS (by omega) (atI_in 0 (fmod_in c (by omega)).1 (by
    have h2 := (fmod_in c (m := n) (by omega)).2
    have e : w.cps.toList.length = w.length := Array.length_toList
    rw [e, hn]
    exact h2))

/-! ### defs that raise, calls of them; methods, new objects; defs called while an exception is handled -/
namespace RX
open PySem PySem.Spec PyProof.Rows L2
section
variable {X : Cx} {CX : CXT} {k : Nat} {f C : Addr} {fd : FuncData} {ps : List Str} {sp : Sp} {E : L2.St → XK} {x m : Str} {p pos apos : Pos} {e o : Expr} {es : List Expr} {ta : TE} {t : TA}
/-- nothing leaves -/
theorem passN : Passes (L2N.CX X.prog X.w) X E0 := by
  intro _ _ _ _ _ _ _ h
  obtain ⟨_, _, _, _, _, _, _, _, _, _, _, _, z⟩ := h
  exact z.elim
theorem takesN : L2N.Takes X fun _ _ _ _ => False := by
  intro _ _ h
  obtain ⟨_, _, _, _, _, _, _, _, _, _, _, _, _, _, _, _, z⟩ := h
  exact z.elim
theorem passA0 {G : L2.St → XK} : ∀ σ, PassesAt CX0 X σ (G σ) := fun _ _ _ _ _ _ _ h => h.elim
/-- what the callee lets out leaves the caller too -/
theorem passD {F : XK} (tk : L2N.Takes X fun c d _ H => F c d H) : Passes (L2N.CX X.prog X.w) X F := L2N.passes_call tk fun _ _ _ _ z => z
/-- a method called where what is raised is wished for at the slots -/
def tMethA (C : Addr) (m : Str) (sp : Sp) (E : L2.St → XK) (ta : TE) (t : TA) : TE := fun σ H Q => ta σ H fun y H1 =>
  ∃ a dx fs, y = .ref a ∧ H1 a = some (.ins C dx fs) ∧ fs.lookup m = none ∧ t σ H1 fun vs H2 => sp (y :: vs) H2 Q (E σ)
theorem pe_methA {pl : Sem Bool} (ho : PE X o ta) (c : Cls X.K C) (hm : Meth X.K C m f) (F : FnOk X.prog X.w X.K X.mg X.base CX k f fd ps sp) (hr : Room k X.A) (hb : Binds X.K fd ps []) (hx : ∀ σ, PassesAt CX X σ (E σ)) (ha : PA X (e :: es) t)
    (hst : starEach (e :: es) X.env = (false, eval e X.env) :: starEach es X.env := by rfl) (hpl : (backTo pos (starEach es X.env)).any (·.1) = false := by rfl)
    (ht : eval (.Call (.Attribute o m apos) (e :: es) [] pos) X.env = (eval o X.env >>= fun ov => standAt apos.atName >>= fun _ => holding [ov] (getMethod ov m pl) >>= fun g => callWith pos g.1 g.2 (backTo pos (starEach (e :: es) X.env)) (backToKw pos (keywordEach [] X.env))) := by rfl) :
    PE X (.Call (.Attribute o m apos) (e :: es) [] pos) (tMethA C m sp E ta t) := ⟨fun pins s σ H Q I h => by
  refine PySem.W.methodCall_KW (pl := pl) (thn (ho.run pins s σ H _ I h) fun u s1 hu => ?_) ht
  obtain ⟨y, H1, I1, ry, a, dx, fs, rfl, ea, l, q⟩ := hu
  obtain rfl : u = Value.ref a := ry
  refine getmeth_ok I1 ea c hm l (PySem.W.callWith_K (first := [.ref a]) (h₀ := X.base) I.ok.mod.kin hm.kp (thn (ha.run pos pins s1 σ H1 _ I1 q) fun us s2 hus => ?_) hst hpl)
  obtain ⟨vs, H2, I2, r, q2⟩ := hus
  exact ⟨I2.kIn, run_fnS (us := .ref a :: us) (vs := .ref a :: vs) F hr hb (hx σ) I2 (.cons rfl r) q2⟩⟩
theorem pe_methA0 {pl : Sem Bool} (ho : PE X o ta) (c : Cls X.K C) (hm : Meth X.K C m f) (F : FnOk X.prog X.w X.K X.mg X.base CX k f fd ps sp) (hr : Room k X.A) (hb : Binds X.K fd ps []) (hx : ∀ σ, PassesAt CX X σ (E σ))
    (ht : eval (.Call (.Attribute o m apos) [] [] pos) X.env = (eval o X.env >>= fun ov => standAt apos.atName >>= fun _ => holding [ov] (getMethod ov m pl) >>= fun g => callWith pos g.1 g.2 (backTo pos (starEach [] X.env)) (backToKw pos (keywordEach [] X.env))) := by rfl) :
    PE X (.Call (.Attribute o m apos) [] [] pos) (tMethA C m sp E ta tNil) := ⟨fun pins s σ H Q I h => by
  refine PySem.W.methodCall_KW (pl := pl) (thn (ho.run pins s σ H _ I h) fun u s1 hu => ?_) ht
  obtain ⟨y, H1, I1, ry, a, dx, fs, rfl, ea, l, q⟩ := hu
  obtain rfl : u = Value.ref a := ry
  exact getmeth_ok I1 ea c hm l (PySem.W.callWith_K0 (first := [.ref a]) I1.kIn hm.kp (run_fnS (us := [.ref a]) (vs := [.ref a]) F hr hb (hx σ) I1 (.cons rfl .nil) q))⟩
/-- C(..) where what is raised is wished for at the slots -/
def tMakeA (C : Addr) (sp : Sp) (E : L2.St → XK) (t : TA) : TE := fun σ H Q => t σ H fun vs H1 => ∀ y dx, H1 y = none → H1 dx = none → dx ≠ y →
  sp (.ref y :: vs) (upd (upd H1 dx (.own y)) y (.ins C dx [])) (fun v H2 => v = .non ∧ Q (.ref y) H2) (E σ)
theorem run_makeA {pins : List (Addr × Obj)} {σ : L2.St} {H : Hp} {s : Shared} {Q : VK} {us : List Value} {vs : List V} {F' : XK} (M : Mk X.K C f) (F : FnOk X.prog X.w X.K X.mg X.base CX k f fd ps sp) (hr : Room (k + 1) X.A) (hb : Binds X.K fd ps [])
    (hx : PassesAt CX X σ F') (I : Inv X pins σ H s) (r : Vals vs us)
    (h : ∀ y dx, H y = none → H dx = none → dx ≠ y → sp (.ref y :: vs) (upd (upd H dx (.own y)) y (.ins C dx [])) (fun v H2 => v = .non ∧ Q (.ref y) H2) F') :
    wpAny (model X.prog X.w) X.A (call (.ref C) us) (EP X pins σ Q) X.xe s := by
  have q := h (s.heap.objs.size + 1) s.heap.objs.size (I.hok.fresh (Nat.le_succ _)) (I.hok.fresh (Nat.le_refl _)) (Nat.ne_of_lt (Nat.lt_succ_self _))
  have I2 := Inv.made (C := C) I
  have r2 : Vals (V.ref (s.heap.objs.size + 1) :: vs) (Value.ref (s.heap.objs.size + 1) :: us) := .cons rfl r
  have hl : (Value.ref (s.heap.objs.size + 1) :: us).length = ps.length := r2.length.symm.trans (F.len _ _ _ _ q)
  have b := hb _ (Value.ref (s.heap.objs.size + 1) :: us) I2.kIn (by rw [List.append_nil]; exact hl)
  rw [List.append_nil] at b
  refine wpAny_call (make_map (f := f) I.kIn M.makes M.init (beq_iff_eq.mp M.fn) (codeAny_mono (F.run _ X.stack _ _ ⟨Value.ref (s.heap.objs.size + 1) :: us, []⟩ _ _ _ F' (hr.make C us []) (I2.env0.make C us []) b r2 q) fun r s' hq => ?_))
  cases r with
  | error e => exact hx pins _ _ e s' I2 hq
  | ok fl =>
    cases fl with
    | ret u =>
      obtain ⟨v, H', I3, rv, rfl, q3⟩ := I2.after hq
      exact ⟨rv, ⟨V.ref (s.heap.objs.size + 1), H', I3, rfl, q3⟩⟩
    | next => exact False.elim hq
    | brk => exact False.elim hq
    | cont => exact False.elim hq
theorem pe_makeA (M : Mk X.K C f) (F : FnOk X.prog X.w X.K X.mg X.base CX k f fd ps sp) (hr : Room (k + 1) X.A) (hg : Gl X x) (hm : X.mg x = some (.ref C)) (hb : Binds X.K fd ps []) (hx : ∀ σ, PassesAt CX X σ (E σ)) (ha : PA X (e :: es) t)
    (hdb : (x == ("__debug__" : Str)) = false := by decide) (he : starEach (e :: es) X.env = (false, eval e X.env) :: starEach es X.env := by rfl) (hpl : (backTo pos (starEach es X.env)).any (·.1) = false := by rfl) : PE X (.Call (.Name x p) (e :: es) [] pos) (tMakeA C sp E t) := ⟨fun pins s σ H Q I h => by
  refine wpAny_Call_Name_kw (ld_glob I hg hm (PySem.W.callWith_K (h₀ := X.base) I.ok.mod.kin M.kp (thn (ha.run pos pins s σ H _ I h) fun us s1 hus => ?_) he hpl) hdb)
  obtain ⟨vs, H1, I1, r, q⟩ := hus
  exact ⟨I1.kIn, run_makeA M F hr hb (hx σ) I1 r q⟩⟩
end
section
variable {P : Program} {w : World} {K : PySem.W.Frag} {mg : Str → Option Value} {base : Heap} {x qual : Str} {st : Stmt} {f : Addr} {fd : FuncData} {N ps : List Str} {k : Nat} {sp : Sp}
/-- a def that may raise -/
theorem okN (F : Fun K x qual st f fd) (S : FnScope N ps (defScope st)) (len : ∀ vs H Q E, sp vs H Q E → vs.length = ps.length)
    (h : ∀ (cdv : Value) (A : Around) (outer : List Env) (s : Shared) (H : Hp) (vs : List V) (Q : VK) (E : XK), Room k (A.deeper (envOfC qual (defScope st) s.heap.objs.size f cdv)) → sp vs H Q E →
      ∃ t, PSs (cxOf (L2N.CX P w) P w K mg base N qual (defScope st) f cdv A outer s H E) (defBody st) t ∧ t ⟨fun _ H' => Q .non H', Q, fun _ _ => False, fun _ _ => False⟩ (start N vs) H) : FnOk P w K mg base (L2N.CX P w) (k + 1) f fd ps sp := by
  obtain ⟨_, _, _, _, _, _, cdv, _, _, rfl, lk, hcd⟩ := F.ex
  exact fn_of lk hcd S len fun A outer s H vs Q E => h cdv A outer s H vs Q E
/-- a def called while an exception is handled, of which nothing is let out -/
theorem okH {CX : CXT} (F : Fun K x qual st f fd) (S : FnScope N ps (defScope st)) (len : ∀ vs H Q E, sp vs H Q E → vs.length = ps.length)
    (h : ∀ (cdv : Value) (A : Around) (outer : List Env) (s : Shared) (H : Hp) (vs : List V) (Q : VK) (E : XK) (z : Addr × Obj), L2H.Hot1 A z → L2H.RoomH k (A.deeper (envOfC qual (defScope st) s.heap.objs.size f cdv)) → sp vs H Q E →
      ∃ t, PSs (L2H.cxH CX P w K mg base N qual (defScope st) f cdv A outer s H E z) (defBody st) t ∧ t ⟨fun _ H' => Q .non H', Q, fun _ _ => False, fun _ _ => False⟩ (start N vs) H) : L2H.FnH P w K mg base CX (k + 1) f fd ps sp := by
  obtain ⟨_, _, _, _, _, _, cdv, _, _, rfl, lk, hcd⟩ := F.ex
  exact L2H.fn_ofH lk hcd S len fun A outer s H vs Q E z => h cdv A outer s H vs Q E z
end
/-- isinstance(e, c) of an exception that is pinned: its class, what the class says, the answer -/
def rIsP (K : PySem.W.Frag) (a : Addr) (cls : Value) (d : Option Addr) : List V → Hp → VK → Prop := fun xs H Q =>
  ∃ (D : Addr) (c : V) (cv : Value) (b : Bool), cls = .ref D ∧ d = none ∧ ExcC K D ∧ xs = [.ref a, c] ∧ (∀ u, RelV c u → u = cv) ∧ PySem.W.kitOne K (.ref D) cv = some b ∧ Q (.bl b) H
theorem call_isP {X : Cx} {a : Addr} {oe : Obj} {cls : Value} {d : Option Addr} (hp : (a, oe) ∈ X.pn) (hz : Zc cls d oe) (hf : ∃ vs, oe.data = .fields vs) : CallR X (.builtin "isinstance") (rIsP X.K a cls d) := by
  intro pins s σ H xs us Q I r h
  obtain ⟨D, c, cv, b, rfl, rfl, C, rfl, hcv, e, q⟩ := h
  obtain ⟨u1, us1, rx, r1, rfl⟩ : ∃ u1 us1, RelV (.ref a) u1 ∧ Vals [c] us1 ∧ us = u1 :: us1 := by
    cases r with
    | cons r1 r2 => exact ⟨_, _, r1, r2, rfl⟩
  obtain ⟨u2, rt, rfl⟩ : ∃ u2, RelV c u2 ∧ us1 = [u2] := by
    cases r1 with
    | cons r2 r3 =>
      cases r3
      exact ⟨_, r2, rfl⟩
  obtain rfl : u1 = .ref a := rx
  obtain rfl := hcv _ rt
  obtain ⟨vs, hv⟩ := hf
  have J : PySem.W.InstAt s.heap a oe D none := by
    have g := (I.pin (a, oe) (List.mem_append_left _ hp)).1
    obtain ⟨oc, od, oda, osl⟩ := oe
    obtain ⟨h1, h2⟩ := hz
    dsimp only at h1 h2 hv
    subst h1 h2 hv
    exact ⟨g, rfl, rfl, trivial⟩
  exact PySem.W.kia_one (PySem.W.handS_kitx_exc C.hg C.hk C.hs C.hd C.ha C.hn C.ht C.hm) I.kIn J e (fun z => nomatch z) fun tk => ⟨.bl b, H, I.kept (t' := tk) fun _ _ z => z, rfl, q⟩
/-- isinstance(e, (c1, c2, ..)) of an exception that is pinned -/
def rIsPT (K : PySem.W.Frag) (a : Addr) (cls : Value) (d : Option Addr) : List V → Hp → VK → Prop := fun xs H Q =>
  ∃ (D tp : Addr) (cs : List V) (us : List Value) (b : Bool), cls = .ref D ∧ d = none ∧ ExcC K D ∧ xs = [.ref a, .ref tp] ∧ H tp = some (.tup cs) ∧ Paired ClsV cs us ∧ PySem.W.kitAny K (.ref D) us = some b ∧ Q (.bl b) H
theorem call_isPT {X : Cx} {a : Addr} {oe : Obj} {cls : Value} {d : Option Addr} (hp : (a, oe) ∈ X.pn) (hz : Zc cls d oe) (hf : ∃ vs, oe.data = .fields vs) : CallR X (.builtin "isinstance") (rIsPT X.K a cls d) := by
  intro pins s σ H xs us Q I r h
  obtain ⟨D, tp, cs, ws, b, rfl, rfl, C, rfl, hT, k, e, q⟩ := h
  obtain ⟨u1, us1, rx, r1, rfl⟩ : ∃ u1 us1, RelV (.ref a) u1 ∧ Vals [.ref tp] us1 ∧ us = u1 :: us1 := by
    cases r with
    | cons r1 r2 => exact ⟨_, _, r1, r2, rfl⟩
  obtain ⟨u2, rt, rfl⟩ : ∃ u2, RelV (.ref tp) u2 ∧ us1 = [u2] := by
    cases r1 with
    | cons r2 r3 =>
      cases r3
      exact ⟨_, r2, rfl⟩
  obtain rfl : u1 = .ref a := rx
  obtain rfl : u2 = .ref tp := rt
  obtain ⟨vs, hv⟩ := hf
  have J : PySem.W.InstAt s.heap a oe D none := by
    have g := (I.pin (a, oe) (List.mem_append_left _ hp)).1
    obtain ⟨oc, od, oda, osl⟩ := oe
    obtain ⟨h1, h2⟩ := hz
    dsimp only at h1 h2 hv
    subst h1 h2 hv
    exact ⟨g, rfl, rfl, trivial⟩
  obtain ⟨_, its, rv, o, h1, h2, n, h3⟩ := (show ObjOk X.prog X.w H s.heap tp (.tup cs) from I.hok tp _ hT)
  have e3 := ClsV.all k rv
  subst e3
  obtain ⟨oc, od, dt, sl⟩ := o
  simp only at h2 h3
  subst h2 h3
  exact PySem.W.kia_tup (PySem.W.handS_kitx_exc C.hg C.hk C.hs C.hd C.ha C.hn C.ht C.hm) I.kIn J h1 e (fun z => nomatch z) fun tk => ⟨.bl b, H, I.kept (t' := tk) fun _ _ z => z, rfl, q⟩
end RX

/-! ### a def that is handed the exception that is being handled -/
namespace RX
open PySem PySem.Spec PyProof.Rows L2
/-- as FnH; the promise knows the exception, its place and what stands there -/
structure FnE (P : Program) (w : World) (K : PySem.W.Frag) (mg : Str → Option Value) (base : Heap) (CX : CXT) (k : Nat) (f : Addr) (fd : FuncData) (ps : List Str) (sp : Addr → Value → Option Addr → Sp) : Prop where
  len : ∀ a c d vs H Q E, sp a c d vs H Q E → vs.length = ps.length
  run : ∀ (A : Around) (outer : List Env) (s : Shared) (H : Hp) (args : Args) (us : List Value) (vs : List V) (Q : VK) (E : XK) (z : Addr × Obj) (c : Value) (d : Option Addr), L2H.RoomH k A → L2H.Hot1 A z → L2H.PinOk outer H s z → Zc c d z.2 → Env0 P w K mg base A outer s H →
    BindsTo s fd args (ps.zip us) → Vals vs us → sp z.1 c d vs H Q E → codeAny (model P w) A (.call (.ref f) args) (CR CX outer P w H s Q E) s
section
variable {P : Program} {w : World} {K : PySem.W.Frag} {mg : Str → Option Value} {base : Heap} {x qual : Str} {st : Stmt} {f : Addr} {fd : FuncData} {N ps : List Str} {k : Nat} {sp : Addr → Value → Option Addr → Sp}
theorem okE {CX : CXT} (F : Fun K x qual st f fd) (S : FnScope N ps (defScope st)) (len : ∀ a c d vs H Q E, sp a c d vs H Q E → vs.length = ps.length)
    (h : ∀ (cdv : Value) (A : Around) (outer : List Env) (s : Shared) (H : Hp) (vs : List V) (Q : VK) (E : XK) (z : Addr × Obj) (c : Value) (d : Option Addr), L2H.Hot1 A z → Zc c d z.2 → L2H.RoomH k (A.deeper (envOfC qual (defScope st) s.heap.objs.size f cdv)) → sp z.1 c d vs H Q E →
      ∃ t, PSs (L2H.cxH CX P w K mg base N qual (defScope st) f cdv A outer s H E z) (defBody st) t ∧ t ⟨fun _ H' => Q .non H', Q, fun _ _ => False, fun _ _ => False⟩ (start N vs) H) : FnE P w K mg base CX (k + 1) f fd ps sp := by
  obtain ⟨_, _, _, _, _, _, cdv, _, _, rfl, lk, hcd⟩ := F.ex
  refine ⟨len, fun A outer s H args us vs Q E z cc dd hr hot hpin hc e0 hb r hsp => ?_⟩
  have hin : K.In s.heap := e0.mod.kin.keeps fun b o hbo => (e0.bs b o hbo).1
  refine codeAny_call_function hr.depth (hin _ _ lk) rfl S.co S.gen rfl (PySem.W.codeRec_of hin hcd) (hb _ _ _ _ (wpAny_newFunctionEnv_cells S.kind (fun y hy => ?_) fun env he s1 c => ?_))
  · rcases S.par y.1 (List.of_mem_zip (show (y.1, y.2) ∈ _ from hy)).1 with q | q
    · exact .inl q
    · exact .inr ⟨q, PySem.W.cellsFrom_some _ _ _ (.inl q)⟩
  subst he
  obtain ⟨t, ht, hq⟩ := h cdv A outer s H vs Q E z cc dd hot hc (hr.deeper _) hsp
  have I := L2H.inv_startH (CX := CX) (E := E) S hpin e0 (len _ _ _ _ _ _ _ hsp) r c
  have nl : s.heap.NoLimit := e0.mod.nolimit.keeps fun b o hbo => (e0.bs b o hbo).1
  refine ⟨nl.keeps c.toInCall.keep, codeAny_func (wpAny_mono (ht.run [] s1 _ H _ I hq) (fun fl s' hs => ?_) fun _ _ hs => hs)⟩
  cases fl with
  | ret u => exact let ⟨v, _, H', J, rv, q⟩ := hs; ⟨v, H', J.os, J.bare, J.base, J.hok, rv, q⟩
  | next => exact let ⟨_, H', J, q⟩ := hs; ⟨.non, H', J.os, J.bare, J.base, J.hok, rfl, q⟩
  | brk => exact let ⟨_, _, _, q⟩ := hs; q.elim
  | cont => exact let ⟨_, _, _, q⟩ := hs; q.elim
end
section
variable {X : Cx} {CX : CXT} {k : Nat} {f : Addr} {fd : FuncData} {ps : List Str} {sp : Addr → Value → Option Addr → Sp} {E : L2.St → XK} {x : Str} {p pos : Pos} {e : Expr} {es : List Expr} {t : TA} {a : Addr} {oe : Obj} {c : Value} {d : Option Addr}
def tCallE (a : Addr) (c : Value) (d : Option Addr) (sp : Addr → Value → Option Addr → Sp) (E : L2.St → XK) (t : TA) : TE := fun σ H Q => t σ H fun vs H1 => sp a c d vs H1 Q (E σ)
theorem pe_callE (F : FnE X.prog X.w X.K X.mg X.base CX k f fd ps sp) (hr : L2H.RoomH k X.A) (hz : L2H.Hot1 X.A (a, oe)) (hp : (a, oe) ∈ X.pn) (hc : Zc c d oe) (hg : Gl X x) (hm : X.mg x = some (.ref f)) (hk : PySem.W.keepIn X.K (.ref f) = true) (hb : Binds X.K fd ps [])
    (hx : ∀ σ, PassesAt CX X σ (E σ)) (ha : PA X (e :: es) t) (hdb : (x == ("__debug__" : Str)) = false := by decide) (he : starEach (e :: es) X.env = (false, eval e X.env) :: starEach es X.env := by rfl) (hpl : (backTo pos (starEach es X.env)).any (·.1) = false := by rfl) :
    PE X (.Call (.Name x p) (e :: es) [] pos) (tCallE a c d sp E t) := ⟨fun pins s σ H Q I h => by
  refine wpAny_Call_Name_kw (ld_glob I hg hm (PySem.W.callWith_K (h₀ := X.base) I.ok.mod.kin hk (thn (ha.run pos pins s σ H _ I h) fun us s1 hus => ?_) he hpl) hdb)
  obtain ⟨vs, H1, J, r, q⟩ := hus
  have hl : us.length = ps.length := r.length.symm.trans (F.len _ _ _ _ _ _ _ q)
  have b := hb s1 us J.kIn (by rw [List.append_nil]; exact hl)
  rw [List.append_nil] at b
  have P1 := J.pin (a, oe) (List.mem_append_left _ hp)
  refine ⟨J.kIn, wpAny_call (codeAny_mono (F.run X.A X.stack s1 H1 ⟨us, []⟩ us vs Q (E σ) (a, oe) c d hr hz ⟨P1.1, P1.2.1, fun hm => (List.mem_cons.mp (J.stkSub _ hm)).elim P1.2.2.1 P1.2.2.2.1, P1.2.2.2.2⟩ hc J.env0 b r q) fun r s' hq => ?_)⟩
  cases r with
  | error e => exact hx σ pins H1 s1 e s' J hq
  | ok fl =>
    cases fl with
    | ret u => exact J.after hq
    | next => exact hq.elim
    | brk => exact hq.elim
    | cont => exact hq.elim⟩
theorem hot_suite {a : Addr} {oe : Obj} {cls : Value} {d : Option Addr} {A : Around} (hz : L2N.Zn cls d oe) (hf : ∃ vs, oe.data = .fields vs) : L2H.Hot1 (A.mark (some (.ref a))) (a, oe) := by
  obtain ⟨vs, e⟩ := hf
  exact ⟨rfl, vs, e, hz.2.2 vs e⟩
theorem fields_of {A : Around} {z : Addr × Obj} (h : L2H.Hot1 A z) : ∃ vs, z.2.data = .fields vs := let ⟨_, vs, e, _⟩ := h; ⟨vs, e⟩
theorem roomH_suite {k : Nat} {A : Around} {h : Option Value} (r : Room k A) : L2H.RoomH k (A.mark h) := ⟨r.dp, r.un⟩
end
end RX

/-! ### wishes, tuples at places, rows of a journal -/
def wishOf (c : Int) : Str := if c.fmod 3 = 0 then wr else rd
theorem wishOf_ok (c : Int) : wishOf c = rd ∨ wishOf c = wr := by
  unfold wishOf
  split
  · exact .inr rfl
  · exact .inl rfl
def spWish : Sp := fun vs H Q _ => ∃ c : Int, vs = [.int c] ∧ RV (.str (wishOf c)) H Q
theorem sv_wish {H : Hp} {c : Int} : SpV spWish [.int c] H (.str (wishOf c)) := fun H1 Q E g q => ⟨c, rfl, q⟩
/-- tuples at these places, what they hold -/
inductive TupsAt (H : Hp) {α : Type} (f : α → List V) : List V → List α → Prop
  | nil : TupsAt H f [] []
  | cons {p : Addr} {r : α} {vs : List V} {l : List α} : H p = some (.tup (f r)) → TupsAt H f vs l → TupsAt H f (.ref p :: vs) (r :: l)
namespace TupsAt
variable {α : Type} {f : α → List V}
theorem mono {H H' : Hp} (g : Gr H H') : ∀ {vs : List V} {l : List α}, TupsAt H f vs l → TupsAt H' f vs l
  | _, _, .nil => .nil
  | _, _, .cons h t => .cons (g.tup h) (mono g t)
theorem chg {H : Hp} {a : Addr} {o : HO} (n : ∀ ts, H a ≠ some (.tup ts)) : ∀ {vs : List V} {l : List α}, TupsAt H f vs l → TupsAt (upd H a o) f vs l
  | _, _, .nil => .nil
  | _, _, .cons h t => .cons ((upd_ne fun e => n _ (e ▸ h)).trans h) (chg n t)
theorem length {H : Hp} : ∀ {vs : List V} {l : List α}, TupsAt H f vs l → vs.length = l.length
  | _, _, .nil => rfl
  | _, _, .cons _ t => by rw [List.length_cons, List.length_cons, length t]
theorem get {H : Hp} : ∀ {vs : List V} {l : List α} (m : Nat) {r : α}, TupsAt H f vs l → l[m]? = some r → ∃ p, vs[m]? = some (.ref p) ∧ H p = some (.tup (f r))
  | _, _, _, _, .nil, h => by simp at h
  | _, _, 0, _, .cons h _, e => by
    cases e
    exact ⟨_, rfl, h⟩
  | _, _, m + 1, _, .cons _ t, e => get m t e
theorem snoc {H : Hp} {p : Addr} {r : α} (h : H p = some (.tup (f r))) : ∀ {vs : List V} {l : List α}, TupsAt H f vs l → TupsAt H f (vs ++ [.ref p]) (l ++ [r])
  | _, _, .nil => .cons h .nil
  | _, _, .cons k t => .cons k (snoc h t)
theorem app {H : Hp} : ∀ {vs ws : List V} {l m : List α}, TupsAt H f vs l → TupsAt H f ws m → TupsAt H f (vs ++ ws) (l ++ m)
  | _, _, _, _, .nil, k => k
  | _, _, _, _, .cons h t, k => .cons h (app t k)
theorem take {H : Hp} : ∀ (n : Nat) {vs : List V} {l : List α}, TupsAt H f vs l → TupsAt H f (vs.take n) (l.take n)
  | 0, _, _, _ => .nil
  | _ + 1, _, _, .nil => .nil
  | n + 1, _, _, .cons h t => .cons h (take n t)
theorem drop {H : Hp} : ∀ (n : Nat) {vs : List V} {l : List α}, TupsAt H f vs l → TupsAt H f (vs.drop n) (l.drop n)
  | 0, _, _, h => h
  | _ + 1, _, _, .nil => .nil
  | n + 1, _, _, .cons _ t => drop n t
end TupsAt

section
variable {K : PySem.W.Frag} {σ : L2.St} {H H' : Hp} {t1 t2 t3 : TE} {c1 c2 : TT} {x y z v : V}
theorem v_isl {p : Addr} {xs : List V} (h : Vl t1 σ H (.ref p)) (hp : H p = some (.lst xs)) : Vl (tCB (rIsi K) (tCons t1 (tCons (tC (.ty "list")) tNil))) σ H (.bl true) := v_isi h v_con (.ty _) (fun _ g => .base (.lst (g.lst hp))) (kit_ty (by decide +kernel))
theorem v_ist {p : Addr} {xs : List V} (h : Vl t1 σ H (.ref p)) (hp : H p = some (.tup xs)) : Vl (tCB (rIsi K) (tCons t1 (tCons (tC (.ty "tuple")) tNil))) σ H (.bl true) := v_isi h v_con (.ty _) (fun _ g => .base (.tup (g.tup hp))) (kit_ty (by decide +kernel))
theorem v_lenT {p : Addr} {xs : List V} (h : Vl t1 σ H (.ref p)) (s : SqT K H p xs) : Vl (tCB (fLen K) (tCons t1 tNil)) σ H (.int xs.length) := v_blt (g_cons h g_nil) fun H1 _ g q => ⟨p, xs, rfl, .inr (g.st s), q H1 (.refl _)⟩
theorem l_cmpT {a : Addr} {xs : List V} {j : Nat} {ws : List Nat} (f : Nat → Bool) (val : Nat → V) (h : Vl t2 σ H (.ref a)) (s : SqT K H a xs) (hz : xs.length ≤ 40000) (hw : ∀ x, wipe ((wipe σ ws).set j (some x)) ws = wipe σ ws)
    (ht : ∀ (m : Nat) (x : V) H1, Gr H H1 → xs[m]? = some x → Ts c1 ((wipe σ ws).set j (some x)) H1 (f m)) (he : ∀ (m : Nat) (x : V) H1, Gr H H1 → xs[m]? = some x → f m = true → Vl t1 ((wipe σ ws).set j (some x)) H1 (val m)) :
    Ls (tLc (iTup K t2) (gName j) c1 t1 ws) σ H (out xs.length f val) := fun H0 Q g q => h H0 _ g fun H1 g1 => ⟨a, rfl, ⟨xs, (g.trans g1).st s⟩, fun p hp =>
  lc_tup (xs := xs) (Cmp H1 f val p) ⟨hp, .new hp, upd_same⟩ (fun _ H' _ w => ((g.trans g1).trans w.2.1).st s) (fun m x H' hm w => ⟨hw x, w.turn (by have := (List.getElem?_eq_some_iff.mp hm).1; omega) (ht m x H1 (g.trans g1) hm) fun hf => he m x H1 (g.trans g1) hm hf⟩)
    fun H' w => q p H' (g1.free w.1) (g1.trans w.2.1) w.2.2⟩
end
theorem Tu.toN {σ : L2.St} {H : Hp} {t1 : TE} {xs : List V} (h : Tu t1 σ H xs) : Vr t1 σ H (fun u H2 => ∃ p, u = .ref p ∧ H p = none ∧ H2 p = some (.tup xs)) := fun H1 Q g q => h H1 Q g fun p H2 hp g2 e => q _ H2 g2 ⟨p, rfl, g.free hp, e⟩
/-- a row: some words -/
abbrev JRow := List Str
def JRow.vs (r : JRow) : List V := r.map V.str
def JRow.good (r : JRow) : Prop := 2 ≤ r.length ∧ r.length ≤ 3 ∧ ∀ s ∈ r, Asc s ∧ s.length ≤ 100
/-- a row as journals have them -/
def JRow.ok (r : JRow) : Prop := ∃ w n : Str, nameB n = true ∧ (((w = "came" ∨ w = "begins") ∧ ∃ x, (x = rd ∨ x = wr) ∧ r = [w, n, x]) ∨ ((w = "left" ∨ w = "asked" ∨ w = "eased") ∧ r = [w, n]))
theorem word_asc {w : Str} (h : w ∈ (["came", "begins", "left", "asked", "eased", "read", "write"] : List Str)) : Asc w ∧ w.length ≤ 6 := by
  have key : ∀ s ∈ (["came", "begins", "left", "asked", "eased", "read", "write"] : List Str), (s.cps.toList.all fun k => decide (k < 128)) = true ∧ s.length ≤ 6 := by decide +kernel
  obtain ⟨a, b⟩ := key w h
  exact ⟨fun k hk => of_decide_eq_true (List.all_eq_true.mp a k hk), b⟩
theorem JRow.ok.good {r : JRow} (h : r.ok) : r.good := by
  obtain ⟨w, n, hn, h⟩ := h
  obtain ⟨_, n2, n3⟩ := nameB_is hn
  have an : Asc n ∧ n.length ≤ 100 := ⟨n3.asc, by omega⟩
  rcases h with ⟨hw, x, hx, rfl⟩ | ⟨hw, rfl⟩
  · have aw := word_asc (w := w) (by rcases hw with rfl | rfl <;> decide)
    have ax := word_asc (w := x) (by rcases hx with rfl | rfl <;> decide)
    refine ⟨by simp, by simp, fun s hs => ?_⟩
    simp only [List.mem_cons, List.not_mem_nil, or_false] at hs
    rcases hs with rfl | rfl | rfl
    · exact ⟨aw.1, by omega⟩
    · exact an
    · exact ⟨ax.1, by omega⟩
  · have aw := word_asc (w := w) (by rcases hw with rfl | rfl | rfl <;> decide)
    refine ⟨by simp, by simp, fun s hs => ?_⟩
    simp only [List.mem_cons, List.not_mem_nil, or_false] at hs
    rcases hs with rfl | rfl
    · exact ⟨aw.1, by omega⟩
    · exact an
def rowsD (l : List JRow) : List PyData := l.map fun r => .tuple (r.map PyData.str)
theorem dps_rows {K : PySem.W.Frag} {H : Hp} : ∀ {vs : List V} {l : List JRow}, TupsAt H JRow.vs vs l → DpAll K H vs (rowsD l)
  | _, _, .nil => .nil
  | _, _, .cons h t => .cons (.tup (SqT.of h) (dps_str _)) (dps_rows t)
theorem canLay_rows : ∀ l : List JRow, (∀ r ∈ l, r.good) → PyData.canLayAll0 (rowsD l) = true
  | [], _ => by simp [rowsD, PyData.canLayAll0]
  | r :: l, h => by
    have t := canLay_rows l fun b hb => h b (List.mem_cons_of_mem _ hb)
    have t2 := canLay_strs r fun s hs => ((h r List.mem_cons_self).2.2 s hs).1
    unfold rowsD at t ⊢
    rw [List.map_cons]
    simp [PyData.canLayAll0, PyData.canLay0, t, t2]
theorem depth_rows : ∀ l : List JRow, PyData.depthAll (rowsD l) ≤ 1
  | [] => by simp [rowsD, PyData.depthAll]
  | r :: l => by
    have t := depth_rows l
    have t2 := depth_strs r
    unfold rowsD at t ⊢
    rw [List.map_cons]
    simp only [PyData.depthAll, PyData.depth, t2]
    omega
theorem shaped_rows (l : List JRow) (h : ∀ r ∈ l, r.good) : SeqAt.shaped (.list (rowsD l)) = true := by
  have a := canLay_rows l h
  have b := depth_rows l
  unfold SeqAt.shaped
  rw [show PyData.canLay0 (.list (rowsD l)) = PyData.canLayAll0 (rowsD l) by simp [PyData.canLay0], a, Bool.true_and]
  refine decide_eq_true ?_
  simp only [PyData.depth]
  omega
/-- two lists of the same good rows -/
def spAlike (K : PySem.W.Frag) : Sp := fun vs H Q _ => ∃ (p u : Addr) (xs ys : List V) (l : List JRow), vs = [.ref p, .ref u] ∧ H p = some (.lst xs) ∧ H u = some (.lst ys) ∧ TupsAt H JRow.vs xs l ∧ TupsAt H JRow.vs ys l ∧ l.length ≤ 30000 ∧ (∀ r ∈ l, r.good) ∧ RV (.bl true) H Q
theorem sv_alike {K : PySem.W.Frag} {H : Hp} {p u : Addr} {xs ys : List V} {l : List JRow} (hp : H p = some (.lst xs)) (hu : H u = some (.lst ys)) (tx : TupsAt H JRow.vs xs l) (ty : TupsAt H JRow.vs ys l) (n : l.length ≤ 30000) (g : ∀ r ∈ l, r.good) : SpV (spAlike K) [.ref p, .ref u] H (.bl true) :=
  fun H1 Q E e q => ⟨p, u, xs, ys, l, rfl, e.lst hp, e.lst hu, tx.mono e, ty.mono e, n, g, q⟩
/-- a new list of so many rows -/
def JRows (n : Nat) (v : V) (H : Hp) : Prop := ∃ (p : Addr) (vs : List V) (l : List JRow), v = .ref p ∧ H p = some (.lst vs) ∧ TupsAt H JRow.vs vs l ∧ l.length ≤ n ∧ ∀ r ∈ l, r.ok
def spRowsBy (K : PySem.W.Frag) : Sp := fun vs H Q _ => ∃ (a : Addr) (ns : List Int), vs = [.ref a] ∧ SqL K H a (ns.map V.int) ∧ RR_ (JRows 400) H Q

/-! ### names and wishes, asked of any thing -/
/-- what is asked by is_name, is_wish: a text, or a thing that is none -/
def spKind (K : PySem.W.Frag) (P : Addr) (f : Str → Bool) : Sp := fun vs H Q _ => ∃ v, vs = [v] ∧ GxR.TabG H P ∧ ((∃ z, v = .str z ∧ z.length ≤ 100000 ∧ RV (.bl (f z)) H Q) ∨ (NoStr K v H ∧ RV (.bl false) H Q))
theorem sv_kindS {K : PySem.W.Frag} {P : Addr} {f : Str → Bool} {H : Hp} {z : Str} (t : GxR.TabG H P) (n : z.length ≤ 100000) : SpV (spKind K P f) [.str z] H (.bl (f z)) := fun H1 Q E g q => ⟨_, rfl, g.tab t, .inl ⟨z, rfl, n, q⟩⟩
theorem sv_kindN {K : PySem.W.Frag} {P : Addr} {f : Str → Bool} {H : Hp} {v : V} (t : GxR.TabG H P) (n : NoStr K v H) : SpV (spKind K P f) [v] H (.bl false) := fun H1 Q E g q => ⟨_, rfl, g.tab t, .inr ⟨n.mono g, q⟩⟩

/-! ### what is a row -/
theorem in_words (z : Str) (l : List Str) : inV (.str z) (l.map V.str) = decide (z ∈ l) := by
  unfold inV
  rw [Bool.eq_iff_iff, List.any_eq_true, decide_eq_true_eq]
  have e : ∀ a b : Str, eqV (.str a) (.str b) = decide (V.str b = V.str a) := fun a b => by
    rw [dec_str]
    exact Bool.beq_comm ..
  constructor
  · rintro ⟨u, hu, h⟩
    obtain ⟨s, hs, rfl⟩ := List.mem_map.mp hu
    rw [e] at h
    have := V.str.inj (of_decide_eq_true h)
    rw [this]
    exact hs
  · intro h
    exact ⟨.str z, List.mem_map.mpr ⟨z, h, rfl⟩, by rw [e]; exact decide_eq_true rfl⟩
theorem flat_words : ∀ l : List Str, (l.map V.str).all flatV = true
  | [] => rfl
  | _ :: l => by rw [List.map_cons, List.all_cons, flat_words l]; rfl
/-- a call whose second argument is a new tuple -/
theorem v_callU {σ : L2.St} {H : Hp} {t1 t2 : TE} {sp : Sp} {E : XK} {x z : V} {xs : List V} (a : Vl t1 σ H x) (d : Tu t2 σ H xs) (k : ∀ p H1, Gr H H1 → H1 p = some (.tup xs) → SpV sp [x, .ref p] H1 z) : Vl (tCall sp [] E (tCons t1 (tCons t2 tNil))) σ H z :=
  fun H1 Q g q => a H1 _ g fun H2 g2 => d H2 _ (g.trans g2) fun p H3 _ g3 e => k p H3 ((g.trans g2).trans g3) e H3 Q _ (.refl _) fun H4 g4 => q H4 ((g2.trans g3).trans g4)
/-- a text of some length, or no text -/
def Thing (K : PySem.W.Frag) (v : V) (H : Hp) : Prop := (∃ z, v = .str z ∧ z.length ≤ 100000) ∨ (NoStr K v H ∧ ∀ z, v ≠ .str z)
theorem Thing.mono {K : PySem.W.Frag} {v : V} {H H' : Hp} (g : Gr H H') (h : Thing K v H) : Thing K v H' := h.imp id fun ⟨a, b⟩ => ⟨a.mono g, b⟩
def nameV : V → Bool
  | .str z => nameB z
  | _ => false
def wishV : V → Bool
  | .str z => decide (z = rd) || decide (z = wr)
  | _ => false
def wordV (l : List Str) : V → Bool
  | .str z => decide (z ∈ l)
  | _ => false
def rowV : List V → Bool
  | [w, n, x] => wordV ["came", "begins"] w && (nameV n && wishV x)
  | [w, n] => wordV ["left", "asked", "eased"] w && nameV n
  | _ => false
theorem wishV_B (z : Str) : wishV (.str z) = wishB z := by
  rw [wish_is]
  show (decide (z = rd) || decide (z = wr)) = _
  have e : ∀ a b : Str, decide (a = b) = decide (V.str a = V.str b) := fun a b => decide_eq_decide.mpr ⟨congrArg V.str, V.str.inj⟩
  rw [e, e]
theorem no_of {v : V} (h : ∀ z, v ≠ .str z) : nameV v = false ∧ wishV v = false ∧ ∀ l, wordV l v = false := by
  cases v <;> first | exact absurd rfl (h _) | exact ⟨rfl, rfl, fun _ => rfl⟩
theorem rowV_ok {r : JRow} : rowV (JRow.vs r) = true ↔ r.ok := by
  unfold JRow.vs JRow.ok
  constructor
  · intro h
    match r, h with
    | [w, n, x], h =>
      simp only [List.map_cons, List.map_nil, rowV, Bool.and_eq_true, wordV, nameV, wishV, Bool.or_eq_true, decide_eq_true_eq, List.mem_cons, List.not_mem_nil, or_false] at h
      exact ⟨w, n, h.2.1, .inl ⟨h.1, x, h.2.2, rfl⟩⟩
    | [w, n], h =>
      simp only [List.map_cons, List.map_nil, rowV, Bool.and_eq_true, wordV, nameV, decide_eq_true_eq, List.mem_cons, List.not_mem_nil, or_false] at h
      exact ⟨w, n, h.2, .inr ⟨h.1, rfl⟩⟩
    | [], h => simp [rowV] at h
    | [_], h => simp [rowV] at h
    | _ :: _ :: _ :: _ :: _, h => simp [rowV] at h
  · rintro ⟨w, n, hn, ⟨hw, x, hx, rfl⟩ | ⟨hw, rfl⟩⟩
    · simp only [List.map_cons, List.map_nil, rowV, Bool.and_eq_true, wordV, nameV, wishV, Bool.or_eq_true, decide_eq_true_eq, List.mem_cons, List.not_mem_nil, or_false]
      exact ⟨hw, hn, hx⟩
    · simp only [List.map_cons, List.map_nil, rowV, Bool.and_eq_true, wordV, nameV, decide_eq_true_eq, List.mem_cons, List.not_mem_nil, or_false]
      exact ⟨hw, hn⟩
def spIsWord (K : PySem.W.Frag) : Sp := fun vs H Q _ => ∃ (v : V) (p : Addr) (l : List Str), vs = [v, .ref p] ∧ Thing K v H ∧ SqT K H p (l.map V.str) ∧ RV (.bl (wordV l v)) H Q
theorem sv_isword {K : PySem.W.Frag} {H : Hp} {v : V} {p : Addr} {l : List Str} (h : Thing K v H) (s : SqT K H p (l.map V.str)) : SpV (spIsWord K) [v, .ref p] H (.bl (wordV l v)) := fun H1 Q E g q => ⟨v, p, l, rfl, h.mono g, g.st s, q⟩
theorem sv_name {K : PySem.W.Frag} {P : Addr} {H : Hp} {v : V} (t : GxR.TabG H P) (h : Thing K v H) : SpV (spKind K P nameB) [v] H (.bl (nameV v)) := by
  rcases h with ⟨z, rfl, hz⟩ | ⟨n, no⟩
  · exact sv_kindS t hz
  · rw [(no_of no).1]
    exact sv_kindN t n
theorem sv_wishv {K : PySem.W.Frag} {P : Addr} {H : Hp} {v : V} (t : GxR.TabG H P) (h : Thing K v H) : SpV (spKind K P wishB) [v] H (.bl (wishV v)) := by
  rcases h with ⟨z, rfl, hz⟩ | ⟨n, no⟩
  · rw [wishV_B]
    exact sv_kindS t hz
  · rw [(no_of no).2.1]
    exact sv_kindN t n
/-- a thing of a known kind that is no tuple -/
def NoTup (K : PySem.W.Frag) (v : V) (H : Hp) : Prop := ∃ n : String, TyX K H v (.type n) ∧ PySem.W.kitOne K (.type n) (.type "tuple") = some false
theorem NoTup.mono {K : PySem.W.Frag} {v : V} {H H' : Hp} (g : Gr H H') (h : NoTup K v H) : NoTup K v H' := let ⟨n, a, b⟩ := h; ⟨n, g.tyX a, b⟩
def spIsRow (K : PySem.W.Frag) (P : Addr) : Sp := fun vs H Q _ => ∃ v : V, vs = [v] ∧ GxR.TabG H P ∧ ((∃ p xs, v = .ref p ∧ H p = some (.tup xs) ∧ (∀ x ∈ xs, Thing K x H) ∧ RV (.bl (rowV xs)) H Q) ∨ (NoTup K v H ∧ RV (.bl false) H Q))
theorem sv_isrow {K : PySem.W.Frag} {P : Addr} {H : Hp} {p : Addr} {xs : List V} (t : GxR.TabG H P) (h : H p = some (.tup xs)) (th : ∀ x ∈ xs, Thing K x H) : SpV (spIsRow K P) [.ref p] H (.bl (rowV xs)) := fun H1 Q E g q => ⟨_, rfl, g.tab t, .inl ⟨p, xs, rfl, g.tup h, fun x hx => (th x hx).mono g, q⟩⟩
theorem sv_norow {K : PySem.W.Frag} {P : Addr} {H : Hp} {v : V} (t : GxR.TabG H P) (h : NoTup K v H) : SpV (spIsRow K P) [v] H (.bl false) := fun H1 Q E g q => ⟨v, rfl, g.tab t, .inr ⟨h.mono g, q⟩⟩

def topS (i : Nat) : Stmt := PySem.Challenge.pw_readwriteroom_k12_texts_refused.main.body.getD i (.Pass ⟨0, 0, 0, 0⟩)
abbrev sIsName : Stmt := topS 19
abbrev nmIsName : List Str := ["thing"]
theorem start_IsName (v0 : V) : L2.start nmIsName [v0] = [some v0] := rfl
theorem scIsName : FnScope nmIsName ["thing"] (defScope sIsName) := ⟨rfl, rfl, rfl, by decide +kernel, rfl, by decide +kernel, by decide +kernel⟩
abbrev sIsWish : Stmt := topS 20
abbrev nmIsWish : List Str := ["thing"]
theorem start_IsWish (v0 : V) : L2.start nmIsWish [v0] = [some v0] := rfl
theorem scIsWish : FnScope nmIsWish ["thing"] (defScope sIsWish) := ⟨rfl, rfl, rfl, by decide +kernel, rfl, by decide +kernel, by decide +kernel⟩
abbrev sIsWord : Stmt := topS 27
abbrev nmIsWord : List Str := ["thing", "words"]
theorem start_IsWord (v0 v1 : V) : L2.start nmIsWord [v0, v1] = [some v0, some v1] := rfl
theorem scIsWord : FnScope nmIsWord ["thing", "words"] (defScope sIsWord) := ⟨rfl, rfl, rfl, by decide +kernel, rfl, by decide +kernel, by decide +kernel⟩
abbrev sIsRow : Stmt := topS 28
abbrev nmIsRow : List Str := ["thing", "word", "name", "wish"]
theorem start_IsRow (v0 : V) : L2.start nmIsRow [v0] = [some v0, none, none, none] := rfl
theorem scIsRow : FnScope nmIsRow ["thing"] (defScope sIsRow) := ⟨rfl, rfl, rfl, by decide +kernel, rfl, by decide +kernel, by decide +kernel⟩
abbrev sRowOf : Stmt := topS 31
abbrev nmRowOf : List Str := ["line", "row"]
theorem start_RowOf (v0 : V) : L2.start nmRowOf [v0] = [some v0, none] := rfl
theorem scRowOf : FnScope nmRowOf ["line"] (defScope sRowOf) := ⟨rfl, rfl, rfl, by decide +kernel, rfl, by decide +kernel, by decide +kernel⟩
abbrev sReadT : Stmt := topS 32
abbrev nmReadT : List Str := ["text", "lines", "line"]
theorem start_ReadT (v0 : V) : L2.start nmReadT [v0] = [some v0, none, none] := rfl
theorem scReadT : FnScope nmReadT ["text"] (defScope sReadT) := ⟨rfl, rfl, rfl, by decide +kernel, rfl, by decide +kernel, by decide +kernel⟩
abbrev sCell : Stmt := topS 34
abbrev nmCell : List Str := ["_law_script", "_law_k"]
theorem start_Cell (v0 v1 : V) : L2.start nmCell [v0, v1] = [some v0, some v1] := rfl
theorem scCell : FnScope nmCell ["_law_script", "_law_k"] (defScope sCell) := ⟨rfl, rfl, rfl, by decide +kernel, rfl, by decide +kernel, by decide +kernel⟩
abbrev sPeople : Stmt := topS 35
abbrev nmPeople : List Str := ["_law_cell", "_law_many", "_law_some", "_law_head", "_law_rest", "_law_k", "_law_way", "_law_left", "_law_right"]
theorem start_People (v0 v1 : V) : L2.start nmPeople [v0, v1] = [some v0, some v1, none, none, none, none, none, none, none] := rfl
theorem scPeople : FnScope nmPeople ["_law_cell", "_law_many"] (defScope sPeople) := ⟨rfl, rfl, rfl, by decide +kernel, rfl, by decide +kernel, by decide +kernel⟩
abbrev sWish : Stmt := topS 36
abbrev nmWish : List Str := ["_law_cell"]
theorem start_Wish (v0 : V) : L2.start nmWish [v0] = [some v0] := rfl
theorem scWish : FnScope nmWish ["_law_cell"] (defScope sWish) := ⟨rfl, rfl, rfl, by decide +kernel, rfl, by decide +kernel, by decide +kernel⟩
abbrev sNameF : Stmt := topS 37
abbrev nmNameF : List Str := ["_law_thing", "_law_some", "_law_sign"]
theorem start_NameF (v0 : V) : L2.start nmNameF [v0] = [some v0, none, none] := rfl
theorem scNameF : FnScope nmNameF ["_law_thing"] (defScope sNameF) := ⟨rfl, rfl, rfl, by decide +kernel, rfl, by decide +kernel, by decide +kernel⟩
abbrev sFormed : Stmt := topS 38
abbrev nmFormed : List Str := ["_law_row", "_law_word"]
theorem start_Formed (v0 : V) : L2.start nmFormed [v0] = [some v0, none] := rfl
theorem scFormed : FnScope nmFormed ["_law_row"] (defScope sFormed) := ⟨rfl, rfl, rfl, by decide +kernel, rfl, by decide +kernel, by decide +kernel⟩
abbrev sAlike : Stmt := topS 39
abbrev nmAlike : List Str := ["_law_found", "_law_due", "_law_k", "_law_word"]
theorem start_Alike (v0 v1 : V) : L2.start nmAlike [v0, v1] = [some v0, some v1, none, none] := rfl
theorem scAlike : FnScope nmAlike ["_law_found", "_law_due"] (defScope sAlike) := ⟨rfl, rfl, rfl, by decide +kernel, rfl, by decide +kernel, by decide +kernel⟩
abbrev sLineBy : Stmt := topS 40
abbrev nmLineBy : List Str := ["_law_cell", "_law_people_here", "_law_who", "_law_word"]
theorem start_LineBy (v0 v1 : V) : L2.start nmLineBy [v0, v1] = [some v0, some v1, none, none] := rfl
theorem scLineBy : FnScope nmLineBy ["_law_cell", "_law_people_here"] (defScope sLineBy) := ⟨rfl, rfl, rfl, by decide +kernel, rfl, by decide +kernel, by decide +kernel⟩
abbrev sOddBy : Stmt := topS 41
abbrev nmOddBy : List Str := ["_law_cell", "_law_more", "_law_right", "_law_some", "_law_place", "_law_signs", "_law_sign"]
theorem start_OddBy (v0 v1 v2 : V) : L2.start nmOddBy [v0, v1, v2] = [some v0, some v1, some v2, none, none, none, none] := rfl
theorem scOddBy : FnScope nmOddBy ["_law_cell", "_law_more", "_law_right"] (defScope sOddBy) := ⟨rfl, rfl, rfl, by decide +kernel, rfl, by decide +kernel, by decide +kernel⟩
abbrev sRowsOf : Stmt := topS 42
abbrev nmRowsOf : List Str := ["_law_lines", "_law_rows", "_law_line", "_law_row", "_law_word"]
theorem start_RowsOf (v0 : V) : L2.start nmRowsOf [v0] = [some v0, none, none, none, none] := rfl
theorem scRowsOf : FnScope nmRowsOf ["_law_lines"] (defScope sRowsOf) := ⟨rfl, rfl, rfl, by decide +kernel, rfl, by decide +kernel, by decide +kernel⟩
abbrev sKinds : Stmt := topS 43
abbrev nmKinds : List Str := ["_law_e", "_law_found", "_law_marks", "_law_k"]
theorem start_Kinds (v0 : V) : L2.start nmKinds [v0] = [some v0, none, none, none] := rfl
theorem scKinds : FnScope nmKinds ["_law_e"] (defScope sKinds) := ⟨rfl, rfl, rfl, by decide +kernel, rfl, by decide +kernel, by decide +kernel⟩
abbrev sRefused : Stmt := topS 44
abbrev nmRefused : List Str := ["_law_thing", "_law_e"]
theorem start_Refused (v0 : V) : L2.start nmRefused [v0] = [some v0, none] := rfl
theorem scRefused : FnScope nmRefused ["_law_thing"] (defScope sRefused) := ⟨rfl, rfl, rfl, by decide +kernel, rfl, by decide +kernel, by decide +kernel⟩
abbrev sLaw : Stmt := topS 45
abbrev nmLaw : List Str := ["_law_script", "_law_people_here", "_law_lines", "_law_place", "_law_right", "_law_odd", "_law_due", "_law_whole", "_law_k", "_law_line"]
theorem start_Law (v0 : V) : L2.start nmLaw [v0] = [some v0, none, none, none, none, none, none, none, none, none] := rfl
theorem scLaw : FnScope nmLaw ["_law_script"] (defScope sLaw) := ⟨rfl, rfl, rfl, by decide +kernel, rfl, by decide +kernel, by decide +kernel⟩
/-- what is raised, with what each is one of; what is asked of it -/
def chains : List (Str × List Str) := [("BadText", ["BadText", "RoomError", "ValueError"])]
def askedOf : List Str := ["BadName", "BadWish", "Known", "Stranger", "BadNumber", "Outside", "Inside", "Reads", "Writes", "Asked", "BadText", "BadJournal", "ValueError"]
def kinds : List (Str × Str × Bool) := chains.flatMap fun p => askedOf.map fun y => (p.1, y, decide (y ∈ p.2))
def raised : List Str := ["BadText"]
def clsV (K : PySem.W.Frag) (y : Str) : Value := if y = "ValueError" then .type "ValueError" else .ref (He.ga K y)
def excB (K : PySem.W.Frag) (D : Addr) : Bool := decide (PySem.W.findIn K (.ref D) "__getattribute__" = some (some (.builtin "BaseException.__getattribute__"))) && (decide (PySem.W.findIn K (.ref D) "__getattr__" = some none) && (decide (PySem.W.subIn K (.ref D) (.type "BaseException") = some true) &&
  (PySem.W.hasDictIn K D && (decide (PySem.W.findIn K (.ref D) "__class__" = some (some (.builtin "object.__class__"))) && (decide (PySem.W.specialIn K (.builtin "object.__class__") "__get__" = some (some (.builtin "getset_descriptor.__get__"))) &&
  (decide (PySem.W.takesIn K (.builtin "object.__class__") = some true) && decide (PySem.W.mroIn K D (.type "object") = some true)))))))
theorem excB_ok {K : PySem.W.Frag} {D : Addr} (h : excB K D = true) : ExcC K D := by
  unfold excB at h
  simp only [Bool.and_eq_true, decide_eq_true_eq] at h
  exact ⟨h.1, h.2.1, h.2.2.1, h.2.2.2.1, h.2.2.2.2.1, h.2.2.2.2.2.1, h.2.2.2.2.2.2.1, h.2.2.2.2.2.2.2⟩
def exB (K : PySem.W.Frag) : Bool := (kinds.all fun r => decide (PySem.W.kitOne K (.ref (He.ga K r.1)) (clsV K r.2.1) = some r.2.2)) && raised.all fun x => excB K (He.ga K x)
theorem exB_kit {K : PySem.W.Frag} (h : exB K = true) {x y : Str} {b : Bool} (m : (x, y, b) ∈ kinds) : PySem.W.kitOne K (.ref (He.ga K x)) (clsV K y) = some b := of_decide_eq_true (List.all_eq_true.mp (Bool.and_eq_true_iff.mp h).1 _ m)
theorem exB_exc {K : PySem.W.Frag} (h : exB K = true) {x : Str} (m : x ∈ raised) : ExcC K (He.ga K x) := excB_ok (List.all_eq_true.mp (Bool.and_eq_true_iff.mp h).2 _ m)
structure Top (K : PySem.W.Frag) (mg : Str → Option Value) where
  f_IsName : Addr
  fd_IsName : FuncData
  F_IsName : Fun K "is_name" "is_name" sIsName f_IsName fd_IsName
  B_IsName : Binds K fd_IsName ["thing"] []
  g_IsName : mg "is_name" = some (.ref f_IsName)
  co_IsName : Addr
  ta_IsName : Addr
  cd_IsName : fd_IsName.code = .ref co_IsName
  f_IsWish : Addr
  fd_IsWish : FuncData
  F_IsWish : Fun K "is_wish" "is_wish" sIsWish f_IsWish fd_IsWish
  B_IsWish : Binds K fd_IsWish ["thing"] []
  g_IsWish : mg "is_wish" = some (.ref f_IsWish)
  f_IsWord : Addr
  fd_IsWord : FuncData
  F_IsWord : Fun K "is_word" "is_word" sIsWord f_IsWord fd_IsWord
  B_IsWord : Binds K fd_IsWord ["thing", "words"] []
  g_IsWord : mg "is_word" = some (.ref f_IsWord)
  f_IsRow : Addr
  fd_IsRow : FuncData
  F_IsRow : Fun K "is_row" "is_row" sIsRow f_IsRow fd_IsRow
  B_IsRow : Binds K fd_IsRow ["thing"] []
  g_IsRow : mg "is_row" = some (.ref f_IsRow)
  f_RowOf : Addr
  fd_RowOf : FuncData
  F_RowOf : Fun K "row_of" "row_of" sRowOf f_RowOf fd_RowOf
  B_RowOf : Binds K fd_RowOf ["line"] []
  g_RowOf : mg "row_of" = some (.ref f_RowOf)
  f_ReadT : Addr
  fd_ReadT : FuncData
  F_ReadT : Fun K "read" "read" sReadT f_ReadT fd_ReadT
  B_ReadT : Binds K fd_ReadT ["text"] []
  g_ReadT : mg "read" = some (.ref f_ReadT)
  f_Cell : Addr
  fd_Cell : FuncData
  F_Cell : Fun K "_law_cell_at" "_law_cell_at" sCell f_Cell fd_Cell
  B_Cell : Binds K fd_Cell ["_law_script", "_law_k"] []
  g_Cell : mg "_law_cell_at" = some (.ref f_Cell)
  f_People : Addr
  fd_People : FuncData
  F_People : Fun K "_law_people" "_law_people" sPeople f_People fd_People
  B_People : Binds K fd_People ["_law_cell", "_law_many"] []
  g_People : mg "_law_people" = some (.ref f_People)
  f_Wish : Addr
  fd_Wish : FuncData
  F_Wish : Fun K "_law_wish_by" "_law_wish_by" sWish f_Wish fd_Wish
  B_Wish : Binds K fd_Wish ["_law_cell"] []
  g_Wish : mg "_law_wish_by" = some (.ref f_Wish)
  f_NameF : Addr
  fd_NameF : FuncData
  F_NameF : Fun K "_law_name" "_law_name" sNameF f_NameF fd_NameF
  B_NameF : Binds K fd_NameF ["_law_thing"] []
  g_NameF : mg "_law_name" = some (.ref f_NameF)
  f_Formed : Addr
  fd_Formed : FuncData
  F_Formed : Fun K "_law_formed" "_law_formed" sFormed f_Formed fd_Formed
  B_Formed : Binds K fd_Formed ["_law_row"] []
  g_Formed : mg "_law_formed" = some (.ref f_Formed)
  f_Alike : Addr
  fd_Alike : FuncData
  F_Alike : Fun K "_law_rows_alike" "_law_rows_alike" sAlike f_Alike fd_Alike
  B_Alike : Binds K fd_Alike ["_law_found", "_law_due"] []
  g_Alike : mg "_law_rows_alike" = some (.ref f_Alike)
  f_LineBy : Addr
  fd_LineBy : FuncData
  F_LineBy : Fun K "_law_line_by" "_law_line_by" sLineBy f_LineBy fd_LineBy
  B_LineBy : Binds K fd_LineBy ["_law_cell", "_law_people_here"] []
  g_LineBy : mg "_law_line_by" = some (.ref f_LineBy)
  f_OddBy : Addr
  fd_OddBy : FuncData
  F_OddBy : Fun K "_law_odd_by" "_law_odd_by" sOddBy f_OddBy fd_OddBy
  B_OddBy : Binds K fd_OddBy ["_law_cell", "_law_more", "_law_right"] []
  g_OddBy : mg "_law_odd_by" = some (.ref f_OddBy)
  f_RowsOf : Addr
  fd_RowsOf : FuncData
  F_RowsOf : Fun K "_law_rows_of" "_law_rows_of" sRowsOf f_RowsOf fd_RowsOf
  B_RowsOf : Binds K fd_RowsOf ["_law_lines"] []
  g_RowsOf : mg "_law_rows_of" = some (.ref f_RowsOf)
  f_Kinds : Addr
  fd_Kinds : FuncData
  F_Kinds : Fun K "_law_kinds" "_law_kinds" sKinds f_Kinds fd_Kinds
  B_Kinds : Binds K fd_Kinds ["_law_e"] []
  g_Kinds : mg "_law_kinds" = some (.ref f_Kinds)
  f_Refused : Addr
  fd_Refused : FuncData
  F_Refused : Fun K "_law_refused" "_law_refused" sRefused f_Refused fd_Refused
  B_Refused : Binds K fd_Refused ["_law_thing"] []
  g_Refused : mg "_law_refused" = some (.ref f_Refused)
  f_Law : Addr
  fd_Law : FuncData
  F_Law : Fun K "law" "law" sLaw f_Law fd_Law
  B_Law : Binds K fd_Law ["_law_script"] []
  g_Law : mg "law" = some (.ref f_Law)
  gc_BadText : mg "BadText" = some (.ref (He.ga K "BadText"))
  gc_BadName : mg "BadName" = some (.ref (He.ga K "BadName"))
  gc_BadWish : mg "BadWish" = some (.ref (He.ga K "BadWish"))
  gc_Known : mg "Known" = some (.ref (He.ga K "Known"))
  gc_Stranger : mg "Stranger" = some (.ref (He.ga K "Stranger"))
  gc_Outside : mg "Outside" = some (.ref (He.ga K "Outside"))
  gc_Inside : mg "Inside" = some (.ref (He.ga K "Inside"))
  gc_Reads : mg "Reads" = some (.ref (He.ga K "Reads"))
  gc_Writes : mg "Writes" = some (.ref (He.ga K "Writes"))
  gc_Asked : mg "Asked" = some (.ref (He.ga K "Asked"))
  gc_BadJournal : mg "BadJournal" = some (.ref (He.ga K "BadJournal"))
  gc_BadNumber : mg "BadNumber" = some (.ref (He.ga K "BadNumber"))
  gc_RoomError : mg "RoomError" = some (.ref (He.ga K "RoomError"))
  xx_BadText : PySem.W.excIn K (He.ga K "BadText") [.type "ValueError", .type "Exception", .type "BaseException", .type "object"] "ValueError.__new__" = true ∧ PySem.W.keepIn K (.ref (He.ga K "BadText")) = true ∧ PySem.W.subIn K (.ref (He.ga K "BadText")) (.type "BaseException") = some true ∧ PySem.W.typeIn K (.ref (He.ga K "BadText")) = some (.type "type")
  e_BadText_BadText : PySem.W.exmOne K (.ref (He.ga K "BadText")) (.ref (He.ga K "BadText")) = some true
  e_BadText_RoomError : PySem.W.exmOne K (.ref (He.ga K "BadText")) (.ref (He.ga K "RoomError")) = some true
  m_ValueError : mg "ValueError" = none
  m_all : mg "all" = none
  m_int : mg "int" = none
  m_isinstance : mg "isinstance" = none
  m_len : mg "len" = none
  m_list : mg "list" = none
  m_range : mg "range" = none
  m_str : mg "str" = none
  m_tuple : mg "tuple" = none
  t_ASKED : Tok
  c_ASKED : mg "ASKED" = some (.str (Str.ofString "asked") t_ASKED)
  t_BEGINS : Tok
  c_BEGINS : mg "BEGINS" = some (.str (Str.ofString "begins") t_BEGINS)
  t_CAME : Tok
  c_CAME : mg "CAME" = some (.str (Str.ofString "came") t_CAME)
  t_EASED : Tok
  c_EASED : mg "EASED" = some (.str (Str.ofString "eased") t_EASED)
  t_LEFT : Tok
  c_LEFT : mg "LEFT" = some (.str (Str.ofString "left") t_LEFT)
  t_LINE_END : Tok
  c_LINE_END : mg "LINE_END" = some (.str (Str.ofString "\n") t_LINE_END)
  t_NAME_LENGTH : Tok
  c_NAME_LENGTH : mg "NAME_LENGTH" = some (.int 12 t_NAME_LENGTH)
  t_NAME_SIGNS : Tok
  c_NAME_SIGNS : mg "NAME_SIGNS" = some (.str (Str.ofString "abcdefghijklmnopqrstuvwxyz0123456789") t_NAME_SIGNS)
  t_READ : Tok
  c_READ : mg "READ" = some (.str (Str.ofString "read") t_READ)
  t_WRITE : Tok
  c_WRITE : mg "WRITE" = some (.str (Str.ofString "write") t_WRITE)
  ex : exB K = true
structure Tabs {K : PySem.W.Frag} {mg : Str → Option Value} (T : Top K mg) (base : Heap) : Prop where
  IsName : GxR.TabB base mg T.co_IsName T.ta_IsName
def dIsName : He.DefD := ⟨("is_name", none), "is_name", "is_name", defArgs sIsName, defBody sIsName, defScope sIsName, [], []⟩
def dIsWish : He.DefD := ⟨("is_wish", none), "is_wish", "is_wish", defArgs sIsWish, defBody sIsWish, defScope sIsWish, [], []⟩
def dIsWord : He.DefD := ⟨("is_word", none), "is_word", "is_word", defArgs sIsWord, defBody sIsWord, defScope sIsWord, [], []⟩
def dIsRow : He.DefD := ⟨("is_row", none), "is_row", "is_row", defArgs sIsRow, defBody sIsRow, defScope sIsRow, [], []⟩
def dRowOf : He.DefD := ⟨("row_of", none), "row_of", "row_of", defArgs sRowOf, defBody sRowOf, defScope sRowOf, [], []⟩
def dReadT : He.DefD := ⟨("read", none), "read", "read", defArgs sReadT, defBody sReadT, defScope sReadT, [], []⟩
def dCell : He.DefD := ⟨("_law_cell_at", none), "_law_cell_at", "_law_cell_at", defArgs sCell, defBody sCell, defScope sCell, [], []⟩
def dPeople : He.DefD := ⟨("_law_people", none), "_law_people", "_law_people", defArgs sPeople, defBody sPeople, defScope sPeople, [], []⟩
def dWish : He.DefD := ⟨("_law_wish_by", none), "_law_wish_by", "_law_wish_by", defArgs sWish, defBody sWish, defScope sWish, [], []⟩
def dNameF : He.DefD := ⟨("_law_name", none), "_law_name", "_law_name", defArgs sNameF, defBody sNameF, defScope sNameF, [], []⟩
def dFormed : He.DefD := ⟨("_law_formed", none), "_law_formed", "_law_formed", defArgs sFormed, defBody sFormed, defScope sFormed, [], []⟩
def dAlike : He.DefD := ⟨("_law_rows_alike", none), "_law_rows_alike", "_law_rows_alike", defArgs sAlike, defBody sAlike, defScope sAlike, [], []⟩
def dLineBy : He.DefD := ⟨("_law_line_by", none), "_law_line_by", "_law_line_by", defArgs sLineBy, defBody sLineBy, defScope sLineBy, [], []⟩
def dOddBy : He.DefD := ⟨("_law_odd_by", none), "_law_odd_by", "_law_odd_by", defArgs sOddBy, defBody sOddBy, defScope sOddBy, [], []⟩
def dRowsOf : He.DefD := ⟨("_law_rows_of", none), "_law_rows_of", "_law_rows_of", defArgs sRowsOf, defBody sRowsOf, defScope sRowsOf, [], []⟩
def dKinds : He.DefD := ⟨("_law_kinds", none), "_law_kinds", "_law_kinds", defArgs sKinds, defBody sKinds, defScope sKinds, [], []⟩
def dRefused : He.DefD := ⟨("_law_refused", none), "_law_refused", "_law_refused", defArgs sRefused, defBody sRefused, defScope sRefused, [], []⟩
def dLaw : He.DefD := ⟨("law", none), "law", "law", defArgs sLaw, defBody sLaw, defScope sLaw, [], []⟩
def fns : List He.DefD := [dIsName, dIsWish, dIsWord, dIsRow, dRowOf, dReadT, dCell, dPeople, dWish, dNameF, dFormed, dAlike, dLineBy, dOddBy, dRowsOf, dKinds, dRefused, dLaw]
def fas : List He.Fa := ([.glo "is_name", .glo "is_wish", .glo "is_word", .glo "is_row", .glo "row_of", .glo "read", .glo "_law_cell_at", .glo "_law_people", .glo "_law_wish_by", .glo "_law_name", .glo "_law_formed", .glo "_law_rows_alike", .glo "_law_line_by", .glo "_law_odd_by", .glo "_law_rows_of", .glo "_law_kinds", .glo "_law_refused", .glo "law", .glo "BadText", .glo "BadName", .glo "BadWish", .glo "Known", .glo "Stranger", .glo "Outside", .glo "Inside", .glo "Reads", .glo "Writes", .glo "Asked"] : List He.Fa) ++ ([.glo "BadJournal", .glo "BadNumber", .glo "RoomError", .exc "BadText", .exm "BadText" "BadText" true, .exm "BadText" "RoomError" true, .free "ValueError", .free "all", .free "int", .free "isinstance", .free "len", .free "list", .free "range", .free "str", .free "tuple", .str "ASKED" "asked", .str "BEGINS" "begins", .str "CAME" "came", .str "EASED" "eased", .str "LEFT" "left", .str "LINE_END" "\n", .int "NAME_LENGTH" 12, .str "NAME_SIGNS" "abcdefghijklmnopqrstuvwxyz0123456789", .str "READ" "read", .str "WRITE" "write"] : List He.Fa)
def tfs : List He.Defn := [("is_name", none)]
abbrev Rw : PySem.W.OpenRow := PySem.W.OpenLaw.row PySem.Challenge.rw_readwriteroom_k12_texts_refused
abbrev hk : PySem.W.Hook := He.hookX 6 fas fns [] tfs exB
def ob (s : PySem.W.SharedT) : He.AlX := He.obsX 6 fas fns [] tfs exB (HandSHeadRun.getT s)
theorem ob_is (s : PySem.W.SharedT) : ob s = hk.obs s.abs := He.obsX_eq (HandSHeadRun.getT_eq s)
def loose : List PySem.Str := (["RoomError", "BadName", "BadWish", "BadNumber", "Known", "Stranger", "Outside", "Inside", "Reads", "Writes", "Asked", "BadText", "BadJournal", "READ", "WRITE", "NAME_SIGNS", "NAME_LENGTH", "is_name", "is_wish", "CAME", "LEFT", "ASKED", "EASED", "BEGINS", "is_word", "is_row", "LINE_END", "row_of"] : List PySem.Str) ++ (["read", "_law_cell_at", "_law_people", "_law_wish_by", "_law_name", "_law_formed", "_law_rows_alike", "_law_line_by", "_law_odd_by", "_law_rows_of", "_law_kinds", "_law_refused"] : List PySem.Str)
set_option maxHeartbeats 0 in
theorem run (w : World) : HandSHeadRun.RunEq Rw (PySem.W.view Rw.prog [45]) hk ob 30000 loose w := by
  intro os
  kernel_rfl
theorem fun_of {K : PySem.W.Frag} {x z : Str} {st : Stmt} {f : Addr} {fd : FuncData} (F : L2.FunD K x z (defArgs st) (defBody st) (defScope st) [] [] f fd) : Fun K x z st f fd := by
  obtain ⟨oc, od, dV, kV, doc, pm, an, cdv, ct, osl, e, lk, hcd, hD, _⟩ := F.ex
  rcases hD with ⟨_, rfl⟩ | ⟨n, _⟩
  · exact ⟨⟨oc, od, kV, doc, pm, an, cdv, ct, osl, e, lk, hcd⟩, F.kp⟩
  · exact absurd rfl n
theorem code_is {K : PySem.W.Frag} {x z : Str} {st : Stmt} {p : He.Defn} {fd : FuncData} (F : Fun K x z st (He.fAd K p) fd) : fd.code = .ref (He.codeOf K p) := by
  obtain ⟨oc, od, kV, doc, pm, an, cdv, ct, osl, rfl, lk, hcd⟩ := F.ex
  obtain ⟨c, rfl⟩ := He.codeIn_ref hcd
  rw [He.codeOf_eq lk rfl]
theorem tab_is {base : Heap} {mg : Str → Option Value} {p : Addr × Addr} (h : LamX.TabB base mg p.1 p.2) : GxR.TabB base mg p.1 p.2 := ⟨h.code, h.bm, h.gP⟩
theorem facts {P : Program} {w : World} {K : PySem.W.Frag} {h : Heap} {mg : Str → Option Value} {fa : Addr} (X : K.In h) (G : h.Ns mainGlobals mg) (hfa : mg "law" = some (.ref fa)) (c : He.SaysX fas fns [] tfs exB w h K) :
    ∃ (T : Top K mg), T.f_Law = fa ∧ (∀ (s : Shared) (v : Value), BindsTo s T.fd_Law ⟨[v], []⟩ [("_law_script", v)]) ∧ (T.co_IsName, T.ta_IsName) = He.cT K ("is_name", none) := by
  obtain ⟨fd_IsName, D0⟩ := c.t.d.def_ 0 (d := dIsName) rfl
  have F_IsName : Fun K "is_name" "is_name" sIsName (He.fAd K ("is_name", none)) fd_IsName := fun_of D0
  have b_IsName := F_IsName.binds (ps := ["thing"]) fun _ _ _ _ _ _ us hl => match us, hl with | [_], _ => rfl
  obtain ⟨fd_IsWish, D1⟩ := c.t.d.def_ 1 (d := dIsWish) rfl
  have F_IsWish : Fun K "is_wish" "is_wish" sIsWish (He.fAd K ("is_wish", none)) fd_IsWish := fun_of D1
  have b_IsWish := F_IsWish.binds (ps := ["thing"]) fun _ _ _ _ _ _ us hl => match us, hl with | [_], _ => rfl
  obtain ⟨fd_IsWord, D2⟩ := c.t.d.def_ 2 (d := dIsWord) rfl
  have F_IsWord : Fun K "is_word" "is_word" sIsWord (He.fAd K ("is_word", none)) fd_IsWord := fun_of D2
  have b_IsWord := F_IsWord.binds (ps := ["thing", "words"]) fun _ _ _ _ _ _ us hl => match us, hl with | [_, _], _ => rfl
  obtain ⟨fd_IsRow, D3⟩ := c.t.d.def_ 3 (d := dIsRow) rfl
  have F_IsRow : Fun K "is_row" "is_row" sIsRow (He.fAd K ("is_row", none)) fd_IsRow := fun_of D3
  have b_IsRow := F_IsRow.binds (ps := ["thing"]) fun _ _ _ _ _ _ us hl => match us, hl with | [_], _ => rfl
  obtain ⟨fd_RowOf, D4⟩ := c.t.d.def_ 4 (d := dRowOf) rfl
  have F_RowOf : Fun K "row_of" "row_of" sRowOf (He.fAd K ("row_of", none)) fd_RowOf := fun_of D4
  have b_RowOf := F_RowOf.binds (ps := ["line"]) fun _ _ _ _ _ _ us hl => match us, hl with | [_], _ => rfl
  obtain ⟨fd_ReadT, D5⟩ := c.t.d.def_ 5 (d := dReadT) rfl
  have F_ReadT : Fun K "read" "read" sReadT (He.fAd K ("read", none)) fd_ReadT := fun_of D5
  have b_ReadT := F_ReadT.binds (ps := ["text"]) fun _ _ _ _ _ _ us hl => match us, hl with | [_], _ => rfl
  obtain ⟨fd_Cell, D6⟩ := c.t.d.def_ 6 (d := dCell) rfl
  have F_Cell : Fun K "_law_cell_at" "_law_cell_at" sCell (He.fAd K ("_law_cell_at", none)) fd_Cell := fun_of D6
  have b_Cell := F_Cell.binds (ps := ["_law_script", "_law_k"]) fun _ _ _ _ _ _ us hl => match us, hl with | [_, _], _ => rfl
  obtain ⟨fd_People, D7⟩ := c.t.d.def_ 7 (d := dPeople) rfl
  have F_People : Fun K "_law_people" "_law_people" sPeople (He.fAd K ("_law_people", none)) fd_People := fun_of D7
  have b_People := F_People.binds (ps := ["_law_cell", "_law_many"]) fun _ _ _ _ _ _ us hl => match us, hl with | [_, _], _ => rfl
  obtain ⟨fd_Wish, D8⟩ := c.t.d.def_ 8 (d := dWish) rfl
  have F_Wish : Fun K "_law_wish_by" "_law_wish_by" sWish (He.fAd K ("_law_wish_by", none)) fd_Wish := fun_of D8
  have b_Wish := F_Wish.binds (ps := ["_law_cell"]) fun _ _ _ _ _ _ us hl => match us, hl with | [_], _ => rfl
  obtain ⟨fd_NameF, D9⟩ := c.t.d.def_ 9 (d := dNameF) rfl
  have F_NameF : Fun K "_law_name" "_law_name" sNameF (He.fAd K ("_law_name", none)) fd_NameF := fun_of D9
  have b_NameF := F_NameF.binds (ps := ["_law_thing"]) fun _ _ _ _ _ _ us hl => match us, hl with | [_], _ => rfl
  obtain ⟨fd_Formed, D10⟩ := c.t.d.def_ 10 (d := dFormed) rfl
  have F_Formed : Fun K "_law_formed" "_law_formed" sFormed (He.fAd K ("_law_formed", none)) fd_Formed := fun_of D10
  have b_Formed := F_Formed.binds (ps := ["_law_row"]) fun _ _ _ _ _ _ us hl => match us, hl with | [_], _ => rfl
  obtain ⟨fd_Alike, D11⟩ := c.t.d.def_ 11 (d := dAlike) rfl
  have F_Alike : Fun K "_law_rows_alike" "_law_rows_alike" sAlike (He.fAd K ("_law_rows_alike", none)) fd_Alike := fun_of D11
  have b_Alike := F_Alike.binds (ps := ["_law_found", "_law_due"]) fun _ _ _ _ _ _ us hl => match us, hl with | [_, _], _ => rfl
  obtain ⟨fd_LineBy, D12⟩ := c.t.d.def_ 12 (d := dLineBy) rfl
  have F_LineBy : Fun K "_law_line_by" "_law_line_by" sLineBy (He.fAd K ("_law_line_by", none)) fd_LineBy := fun_of D12
  have b_LineBy := F_LineBy.binds (ps := ["_law_cell", "_law_people_here"]) fun _ _ _ _ _ _ us hl => match us, hl with | [_, _], _ => rfl
  obtain ⟨fd_OddBy, D13⟩ := c.t.d.def_ 13 (d := dOddBy) rfl
  have F_OddBy : Fun K "_law_odd_by" "_law_odd_by" sOddBy (He.fAd K ("_law_odd_by", none)) fd_OddBy := fun_of D13
  have b_OddBy := F_OddBy.binds (ps := ["_law_cell", "_law_more", "_law_right"]) fun _ _ _ _ _ _ us hl => match us, hl with | [_, _, _], _ => rfl
  obtain ⟨fd_RowsOf, D14⟩ := c.t.d.def_ 14 (d := dRowsOf) rfl
  have F_RowsOf : Fun K "_law_rows_of" "_law_rows_of" sRowsOf (He.fAd K ("_law_rows_of", none)) fd_RowsOf := fun_of D14
  have b_RowsOf := F_RowsOf.binds (ps := ["_law_lines"]) fun _ _ _ _ _ _ us hl => match us, hl with | [_], _ => rfl
  obtain ⟨fd_Kinds, D15⟩ := c.t.d.def_ 15 (d := dKinds) rfl
  have F_Kinds : Fun K "_law_kinds" "_law_kinds" sKinds (He.fAd K ("_law_kinds", none)) fd_Kinds := fun_of D15
  have b_Kinds := F_Kinds.binds (ps := ["_law_e"]) fun _ _ _ _ _ _ us hl => match us, hl with | [_], _ => rfl
  obtain ⟨fd_Refused, D16⟩ := c.t.d.def_ 16 (d := dRefused) rfl
  have F_Refused : Fun K "_law_refused" "_law_refused" sRefused (He.fAd K ("_law_refused", none)) fd_Refused := fun_of D16
  have b_Refused := F_Refused.binds (ps := ["_law_thing"]) fun _ _ _ _ _ _ us hl => match us, hl with | [_], _ => rfl
  obtain ⟨fd_Law, D17⟩ := c.t.d.def_ 17 (d := dLaw) rfl
  have F_Law : Fun K "law" "law" sLaw (He.fAd K ("law", none)) fd_Law := fun_of D17
  have b_Law := F_Law.binds (ps := ["_law_script"]) fun _ _ _ _ _ _ us hl => match us, hl with | [_], _ => rfl
  obtain ⟨t_ASKED, y_ASKED⟩ := He.str_ok X G (c.t.d.fact 43 (f := .str "ASKED" "asked") rfl)
  obtain ⟨t_BEGINS, y_BEGINS⟩ := He.str_ok X G (c.t.d.fact 44 (f := .str "BEGINS" "begins") rfl)
  obtain ⟨t_CAME, y_CAME⟩ := He.str_ok X G (c.t.d.fact 45 (f := .str "CAME" "came") rfl)
  obtain ⟨t_EASED, y_EASED⟩ := He.str_ok X G (c.t.d.fact 46 (f := .str "EASED" "eased") rfl)
  obtain ⟨t_LEFT, y_LEFT⟩ := He.str_ok X G (c.t.d.fact 47 (f := .str "LEFT" "left") rfl)
  obtain ⟨t_LINE_END, y_LINE_END⟩ := He.str_ok X G (c.t.d.fact 48 (f := .str "LINE_END" "\n") rfl)
  obtain ⟨t_NAME_LENGTH, y_NAME_LENGTH⟩ := He.int_ok X G (c.t.d.fact 49 (f := .int "NAME_LENGTH" 12) rfl)
  obtain ⟨t_NAME_SIGNS, y_NAME_SIGNS⟩ := He.str_ok X G (c.t.d.fact 50 (f := .str "NAME_SIGNS" "abcdefghijklmnopqrstuvwxyz0123456789") rfl)
  obtain ⟨t_READ, y_READ⟩ := He.str_ok X G (c.t.d.fact 51 (f := .str "READ" "read") rfl)
  obtain ⟨t_WRITE, y_WRITE⟩ := He.str_ok X G (c.t.d.fact 52 (f := .str "WRITE" "write") rfl)
  have e := hfa.symm.trans (He.glo_ok X G (c.t.d.fact 17 (f := .glo "law") rfl))
  have b := FunD.bindsA (ps := ["_law_script"]) D17 fun _ _ _ _ _ _ us hl => match us, hl with | [_], _ => rfl
  exact ⟨⟨_, fd_IsName, F_IsName, b_IsName, He.glo_ok X G (c.t.d.fact 0 (f := .glo "is_name") rfl), _, (He.cT K ("is_name", none)).2, code_is F_IsName, _, fd_IsWish, F_IsWish, b_IsWish, He.glo_ok X G (c.t.d.fact 1 (f := .glo "is_wish") rfl), _, fd_IsWord, F_IsWord, b_IsWord, He.glo_ok X G (c.t.d.fact 2 (f := .glo "is_word") rfl), _, fd_IsRow, F_IsRow, b_IsRow, He.glo_ok X G (c.t.d.fact 3 (f := .glo "is_row") rfl), _, fd_RowOf, F_RowOf, b_RowOf, He.glo_ok X G (c.t.d.fact 4 (f := .glo "row_of") rfl), _, fd_ReadT, F_ReadT, b_ReadT, He.glo_ok X G (c.t.d.fact 5 (f := .glo "read") rfl), _, fd_Cell, F_Cell, b_Cell, He.glo_ok X G (c.t.d.fact 6 (f := .glo "_law_cell_at") rfl), _, fd_People, F_People, b_People, He.glo_ok X G (c.t.d.fact 7 (f := .glo "_law_people") rfl), _, fd_Wish, F_Wish, b_Wish, He.glo_ok X G (c.t.d.fact 8 (f := .glo "_law_wish_by") rfl), _, fd_NameF, F_NameF, b_NameF, He.glo_ok X G (c.t.d.fact 9 (f := .glo "_law_name") rfl), _, fd_Formed, F_Formed, b_Formed, He.glo_ok X G (c.t.d.fact 10 (f := .glo "_law_formed") rfl), _, fd_Alike, F_Alike, b_Alike, He.glo_ok X G (c.t.d.fact 11 (f := .glo "_law_rows_alike") rfl), _, fd_LineBy, F_LineBy, b_LineBy, He.glo_ok X G (c.t.d.fact 12 (f := .glo "_law_line_by") rfl), _, fd_OddBy, F_OddBy, b_OddBy, He.glo_ok X G (c.t.d.fact 13 (f := .glo "_law_odd_by") rfl), _, fd_RowsOf, F_RowsOf, b_RowsOf, He.glo_ok X G (c.t.d.fact 14 (f := .glo "_law_rows_of") rfl), _, fd_Kinds, F_Kinds, b_Kinds, He.glo_ok X G (c.t.d.fact 15 (f := .glo "_law_kinds") rfl), _, fd_Refused, F_Refused, b_Refused, He.glo_ok X G (c.t.d.fact 16 (f := .glo "_law_refused") rfl), _, fd_Law, F_Law, b_Law, He.glo_ok X G (c.t.d.fact 17 (f := .glo "law") rfl), He.glo_ok X G (c.t.d.fact 18 (f := .glo "BadText") rfl), He.glo_ok X G (c.t.d.fact 19 (f := .glo "BadName") rfl), He.glo_ok X G (c.t.d.fact 20 (f := .glo "BadWish") rfl), He.glo_ok X G (c.t.d.fact 21 (f := .glo "Known") rfl), He.glo_ok X G (c.t.d.fact 22 (f := .glo "Stranger") rfl), He.glo_ok X G (c.t.d.fact 23 (f := .glo "Outside") rfl), He.glo_ok X G (c.t.d.fact 24 (f := .glo "Inside") rfl), He.glo_ok X G (c.t.d.fact 25 (f := .glo "Reads") rfl), He.glo_ok X G (c.t.d.fact 26 (f := .glo "Writes") rfl), He.glo_ok X G (c.t.d.fact 27 (f := .glo "Asked") rfl), He.glo_ok X G (c.t.d.fact 28 (f := .glo "BadJournal") rfl), He.glo_ok X G (c.t.d.fact 29 (f := .glo "BadNumber") rfl), He.glo_ok X G (c.t.d.fact 30 (f := .glo "RoomError") rfl), He.exc_ok (c.t.d.fact 31 (f := .exc "BadText") rfl), He.exm_ok (c.t.d.fact 32 (f := .exm "BadText" "BadText" true) rfl), He.exm_ok (c.t.d.fact 33 (f := .exm "BadText" "RoomError" true) rfl), He.free_ok X G (c.t.d.fact 34 (f := .free "ValueError") rfl), He.free_ok X G (c.t.d.fact 35 (f := .free "all") rfl), He.free_ok X G (c.t.d.fact 36 (f := .free "int") rfl), He.free_ok X G (c.t.d.fact 37 (f := .free "isinstance") rfl), He.free_ok X G (c.t.d.fact 38 (f := .free "len") rfl), He.free_ok X G (c.t.d.fact 39 (f := .free "list") rfl), He.free_ok X G (c.t.d.fact 40 (f := .free "range") rfl), He.free_ok X G (c.t.d.fact 41 (f := .free "str") rfl), He.free_ok X G (c.t.d.fact 42 (f := .free "tuple") rfl), t_ASKED, y_ASKED, t_BEGINS, y_BEGINS, t_CAME, y_CAME, t_EASED, y_EASED, t_LEFT, y_LEFT, t_LINE_END, y_LINE_END, t_NAME_LENGTH, y_NAME_LENGTH, t_NAME_SIGNS, y_NAME_SIGNS, t_READ, y_READ, t_WRITE, y_WRITE, c.more⟩, (Value.ref.inj (Option.some.inj e)).symm, fun s v => b s [v] rfl, rfl⟩

/-! ### deeds that the law draws -/
/-- a number of this script: some number in its bounds -/
def spBnd (K : PySem.W.Frag) (least : Int) (f : List Int → Int) : Sp := fun vs H Q _ => ∃ (a : Addr) (ns : List Int), vs = [.ref a] ∧ SqL K H a (ns.map V.int) ∧ RV (.int (f ns)) H Q
theorem sv_bnd {K : PySem.W.Frag} {least : Int} {f : List Int → Int} {H : Hp} {a : Addr} {ns : List Int} (h : SqL K H a (ns.map V.int)) : SpV (spBnd K least f) [.ref a] H (.int (f ns)) := fun H1 Q E g q => ⟨a, ns, rfl, g.sl h, q⟩
def seatsOf (ns : List Int) : Int :=
  if ((cellAt ns 4).fmod 8 = 1 ∨ (cellAt ns 4).fmod 8 = 3) ∧ (cellAt ns 0).fmod 2 = 1 then 1 + ((cellAt ns 0).fdiv 2).fmod 80 else numBy (cellAt ns 0) 1
def patienceOf (ns : List Int) : Int :=
  if (cellAt ns 4).fmod 8 = 2 ∧ (cellAt ns 1).fmod 2 = 1 then ((cellAt ns 1).fdiv 2).fmod 120 else numBy (cellAt ns 1) 0
theorem seatsOf_in (ns : List Int) : 1 ≤ seatsOf ns ∧ seatsOf ns ≤ 10 ^ 9 := by
  have b := fmod_in ((cellAt ns 0).fdiv 2) (m := 80) (by decide)
  have n := numBy_in (cellAt ns 0) 1 (.inr rfl)
  unfold seatsOf
  split <;> omega
theorem patienceOf_in (ns : List Int) : 0 ≤ patienceOf ns ∧ patienceOf ns ≤ 10 ^ 9 := by
  have b := fmod_in ((cellAt ns 1).fdiv 2) (m := 120) (by decide)
  have n := numBy_in (cellAt ns 1) 0 (.inl rfl)
  unfold patienceOf
  split <;> omega
/-- a deed: its word, a name, a wish -/
structure Deed where
  word : Str
  who : Str
  wish : Str
def Deed.vs (d : Deed) : List V := [.str d.word, .str d.who, .str d.wish]
abbrev wCame : Str := "came"
abbrev wLeft : Str := "left"
abbrev wAsked : Str := "asked"
abbrev wEased : Str := "eased"
def Deed.good (d : Deed) : Prop := (d.word = wCame ∨ d.word = wLeft ∨ d.word = wAsked ∨ d.word = wEased) ∧ nameB d.who = true ∧ (d.wish = rd ∨ d.wish = wr)
/-- a new list of good deeds -/
def Deeds (H0 : Hp) (v : V) (H : Hp) : Prop := ∃ (p : Addr) (vs : List V) (ds : List Deed), v = .ref p ∧ H0 p = none ∧ H p = some (.lst vs) ∧ TupsAt H Deed.vs vs ds ∧ ds.length ≤ 300 ∧ ∀ d ∈ ds, d.good
def spCrowd (K : PySem.W.Frag) : Sp := fun vs H Q _ => ∃ (a : Addr) (ns : List Int) (n : Nat), vs = [.ref a, .int (n : Int)] ∧ SqL K H a (ns.map V.int) ∧ 1 ≤ n ∧ n ≤ 12 ∧ RR_ (Deeds H) H Q
/-- a list of some names, none or more -/
def SomeNames (v : V) (H : Hp) : Prop := ∃ (p : Addr) (ss : List Str), v = .ref p ∧ H p = some (.lst (ss.map V.str)) ∧ 1 ≤ ss.length ∧ ss.length ≤ 80 ∧ ∀ s ∈ ss, nameB s = true
def spNames (K : PySem.W.Frag) : Sp := fun vs H Q _ => ∃ (a : Addr) (ns : List Int) (n : Nat), vs = [.ref a, .int (n : Int)] ∧ SqL K H a (ns.map V.int) ∧ 1 ≤ n ∧ n ≤ 12 ∧ RR_ SomeNames H Q
def spDeedBy (K : PySem.W.Frag) : Sp := fun vs H Q _ => ∃ (c : Int) (pp pi pw : Addr) (ps is_ ws : List Str), vs = [.int c, .ref pp, .ref pi, .ref pw] ∧ SqL K H pp (ps.map V.str) ∧ SqL K H pi (is_.map V.str) ∧ SqL K H pw (ws.map V.str) ∧ 1 ≤ ps.length ∧ ps.length ≤ 1000 ∧ is_.length ≤ 40000 ∧ ws.length ≤ 40000 ∧
  (∀ s ∈ ps, nameB s = true) ∧ (∀ s ∈ is_, nameB s = true) ∧ RR_ (fun v H1 => ∃ p d, v = .ref p ∧ H1 p = some (.tup (Deed.vs d)) ∧ d.good) H Q

/-- pairs of texts -/
def P2.vs (p : Str × Str) : List V := [.str p.1, .str p.2]
def spPairs : Sp := fun vs H Q _ => ∃ (p : Addr) (xs : List V) (l : List (Str × Str)), vs = [.ref p] ∧ H p = some (.lst xs) ∧ TupsAt H P2.vs xs l ∧ RV (.bl true) H Q
def spTexts : Sp := fun vs H Q _ => ∃ (p : Addr) (l : List Str), vs = [.ref p] ∧ H p = some (.lst (l.map V.str)) ∧ RV (.bl true) H Q
def spWhole : Sp := fun vs H Q _ => ∃ i : Int, vs = [.int i] ∧ RV (.bl true) H Q

/-! ### the plain lists of the law: who reads, who writes, who asked, who waits -/
structure QE where
  who : Str
  wish : Str
  often : Nat
def QE.vs (e : QE) : List V := [.str e.who, .str e.wish, .int e.often]
structure Now where
  queue : List QE
  reading : List Str
  alone : Option Str
  asked : Option Str
def optV : Option Str → V
  | none => .non
  | some s => .str s
theorem scal_opt (o : Option Str) (s : Str) : scal (optV o) (.str s) = true := by cases o <;> rfl
theorem optV_is (o : Option Str) (s : Str) : decide (optV o = .str s) = decide (o = some s) := by
  cases o with
  | none => rfl
  | some t =>
    refine decide_eq_decide.mpr ⟨fun h => ?_, fun h => ?_⟩
    · cases h
      rfl
    · cases h
      rfl
theorem optV_non (o : Option Str) : decide (optV o = .non) = decide (o = none) := by cases o <;> rfl
def nowD (q r a k : V) : List (Key × V) := [(.inr "queue", q), (.inr "reading", r), (.inr "alone", a), (.inr "asked", k)]
theorem keys_ne : (("queue" : Str) = "reading") = False ∧ (("queue" : Str) = "alone") = False ∧ (("queue" : Str) = "asked") = False ∧ (("reading" : Str) = "queue") = False ∧ (("reading" : Str) = "alone") = False ∧ (("reading" : Str) = "asked") = False ∧
    (("alone" : Str) = "queue") = False ∧ (("alone" : Str) = "reading") = False ∧ (("alone" : Str) = "asked") = False ∧ (("asked" : Str) = "queue") = False ∧ (("asked" : Str) = "reading") = False ∧ (("asked" : Str) = "alone") = False := by
  refine ⟨?_, ?_, ?_, ?_, ?_, ?_, ?_, ?_, ?_, ?_, ?_, ?_⟩ <;> exact eq_false (by decide +kernel)
section
variable {q r a k v : V}
theorem get_q : valV (nowD q r a k) (.inr "queue" : Key) = some q := by
  obtain ⟨h1, h2, h3, h4, h5, h6, h7, h8, h9, h10, h11, h12⟩ := keys_ne
  simp [valV, nowD]
theorem get_r : valV (nowD q r a k) (.inr "reading" : Key) = some r := by
  obtain ⟨h1, h2, h3, h4, h5, h6, h7, h8, h9, h10, h11, h12⟩ := keys_ne
  simp [valV, nowD, List.find?_cons, h1]
theorem get_a : valV (nowD q r a k) (.inr "alone" : Key) = some a := by
  obtain ⟨h1, h2, h3, h4, h5, h6, h7, h8, h9, h10, h11, h12⟩ := keys_ne
  simp [valV, nowD, List.find?_cons, h2, h5]
theorem get_k : valV (nowD q r a k) (.inr "asked" : Key) = some k := by
  obtain ⟨h1, h2, h3, h4, h5, h6, h7, h8, h9, h10, h11, h12⟩ := keys_ne
  simp [valV, nowD, List.find?_cons, h3, h6, h9]
theorem put_q : putK (nowD q r a k) (.inr "queue" : Key) v = nowD v r a k := by
  obtain ⟨h1, h2, h3, h4, h5, h6, h7, h8, h9, h10, h11, h12⟩ := keys_ne
  simp [putK, nowD, h4, h7, h10]
theorem put_r : putK (nowD q r a k) (.inr "reading" : Key) v = nowD q v a k := by
  obtain ⟨h1, h2, h3, h4, h5, h6, h7, h8, h9, h10, h11, h12⟩ := keys_ne
  simp [putK, nowD, h1, h8, h11]
theorem put_a : putK (nowD q r a k) (.inr "alone" : Key) v = nowD q r v k := by
  obtain ⟨h1, h2, h3, h4, h5, h6, h7, h8, h9, h10, h11, h12⟩ := keys_ne
  simp [putK, nowD, h2, h5, h12]
theorem put_k : putK (nowD q r a k) (.inr "asked" : Key) v = nowD q r a v := by
  obtain ⟨h1, h2, h3, h4, h5, h6, h7, h8, h9, h10, h11, h12⟩ := keys_ne
  simp [putK, nowD, h3, h6, h9]
end
/-- these plain lists stand at p -/
def NowAt (L : Addr → Prop) (H : Hp) (p : Addr) (s : Now) : Prop := ∃ (q r : Addr) (xs : List V), H p = some (.dK (nowD (.ref q) (.ref r) (optV s.alone) (optV s.asked))) ∧ H q = some (.lst xs) ∧ TupsAt H QE.vs xs s.queue ∧ H r = some (.lst (s.reading.map V.str)) ∧ ¬ L p ∧ ¬ L q ∧ ¬ L r
def noL : Addr → Prop := fun _ => False
theorem NowAt.any {L : Addr → Prop} {H : Hp} {p : Addr} {s : Now} (h : NowAt L H p s) : NowAt noL H p s := let ⟨q, r, xs, h1, h2, h3, h4, _, _, _⟩ := h; ⟨q, r, xs, h1, h2, h3, h4, id, id, id⟩
/-- all of L is taken -/
def Live (L : Addr → Prop) (H : Hp) : Prop := ∀ b, L b → H b ≠ none
theorem Live.new {L : Addr → Prop} {H H' : Hp} {x : Addr} (l : Live L H) (g : Gr H H') (h : H' x = none) : ¬ L x := fun z => l x z (g.free h)
theorem Live.mono {L : Addr → Prop} {H H' : Hp} (l : Live L H) (g : Gr H H') : Live L H' := fun b z w => l b z (g.free w)
theorem Gr.dK {H H' : Hp} {a : Addr} {kvs : List (Key × V)} (x : Gr H H') (h : H a = some (.dK kvs)) : H' a = some (.dK kvs) := x.at_ h fun _ e => by cases e
theorem NowAt.mono {L : Addr → Prop} {H H' : Hp} {p : Addr} {s : Now} (g : Gr H H') (h : NowAt L H p s) : NowAt L H' p s := let ⟨q, r, xs, h1, h2, h3, h4, l⟩ := h; ⟨q, r, xs, g.dK h1, g.lst h2, h3.mono g, g.lst h4, l⟩
section
variable {K : PySem.W.Frag} {σ : L2.St} {H H' : Hp} {t1 t2 t3 : TE} {c1 c2 : TT} {x y z v : V} {D : Ends} {u1 u2 : TS}
theorem v_dget {p : Addr} {kvs : List (Key × V)} {k : Str} (h : Vl t1 σ H (.ref p)) (hd : H p = some (.dK kvs)) (e : valV kvs (.inr k) = some v) : Vl (tDGet t1 (tC (.str k))) σ H v := fun H1 Q g q => h H1 _ g fun H2 g2 => ⟨p, v, rfl, e ▸ DGet.k (k := .inr k) ((g.trans g2).dK hd), q H2 g2⟩
theorem v_nowQ {p q r : Addr} {a k : V} (h : Vl t1 σ H (.ref p)) (hd : H p = some (.dK (nowD (.ref q) (.ref r) a k))) : Vl (tDGet t1 (tC (.str "queue"))) σ H (.ref q) := v_dget h hd get_q
theorem v_nowR {p : Addr} {q r a k : V} (h : Vl t1 σ H (.ref p)) (hd : H p = some (.dK (nowD q r a k))) : Vl (tDGet t1 (tC (.str "reading"))) σ H r := v_dget h hd get_r
theorem v_nowA {p : Addr} {q r a k : V} (h : Vl t1 σ H (.ref p)) (hd : H p = some (.dK (nowD q r a k))) : Vl (tDGet t1 (tC (.str "alone"))) σ H a := v_dget h hd get_a
theorem v_nowK {p : Addr} {q r a k : V} (h : Vl t1 σ H (.ref p)) (hd : H p = some (.dK (nowD q r a k))) : Vl (tDGet t1 (tC (.str "asked"))) σ H k := v_dget h hd get_k
theorem S_dputR {R : V → Hp → Prop} {p : Addr} {kvs : List (Key × V)} {k : Str} (hv : Vr t2 σ H R) (hp : Vl t1 σ H (.ref p)) (hd : H p = some (.dK kvs)) (n : kvs.length ≤ 1000) (mono : ∀ {v H1 H2}, Gr H1 H2 → R v H1 → R v H2)
    (q : ∀ v H1, Gr H H1 → R v H1 → D.nx σ (upd H1 p (.dK (putK kvs (.inr k) v)))) : sDPut t1 (tC (.str k)) t2 D σ H := hv H _ (.refl _) fun v H1 g1 hr => hp H1 _ g1 fun H2 g2 => ⟨p, _, rfl, DPut.k (k := .inr k) ((g1.trans g2).dK hd) (Nat.lt_of_le_of_lt n (by decide)), q v H2 (g1.trans g2) (mono g2 hr)⟩
theorem S_dput {p : Addr} {kvs : List (Key × V)} {k : Str} (hv : Vl t2 σ H v) (hp : Vl t1 σ H (.ref p)) (hd : H p = some (.dK kvs)) (n : kvs.length ≤ 1000) (q : ∀ H1, Gr H H1 → D.nx σ (upd H1 p (.dK (putK kvs (.inr k) v)))) : sDPut t1 (tC (.str k)) t2 D σ H :=
  S_dputR hv.toR hp hd n (fun _ h => h) fun w H1 g e => e ▸ q H1 g
theorem B_dput {p : Addr} {kvs : List (Key × V)} {k : Str} (hv : Vl t2 σ H v) (hp : Vl t1 σ H (.ref p)) (hd : H p = some (.dK kvs)) (n : kvs.length ≤ 1000) (q : ∀ H1, Gr H H1 → u1 D σ (upd H1 p (.dK (putK kvs (.inr k) v)))) : tSeq (sDPut t1 (tC (.str k)) t2) u1 D σ H := S_dput (D := { D with nx := u1 D }) hv hp hd n q
theorem B_dputR {R : V → Hp → Prop} {p : Addr} {kvs : List (Key × V)} {k : Str} (hv : Vr t2 σ H R) (hp : Vl t1 σ H (.ref p)) (hd : H p = some (.dK kvs)) (n : kvs.length ≤ 1000) (mono : ∀ {v H1 H2}, Gr H1 H2 → R v H1 → R v H2)
    (q : ∀ v H1, Gr H H1 → R v H1 → u1 D σ (upd H1 p (.dK (putK kvs (.inr k) v)))) : tSeq (sDPut t1 (tC (.str k)) t2) u1 D σ H := S_dputR (D := { D with nx := u1 D }) hv hp hd n mono q
theorem flat_strs : ∀ l : List Str, (l.map V.str).all flatV = true
  | [] => rfl
  | _ :: l => by rw [List.map_cons, List.all_cons, flat_strs l]; rfl
theorem in_strs (z : Str) (l : List Str) : inV (.str z) (l.map V.str) = decide (z ∈ l) := by
  unfold inV
  rw [Bool.eq_iff_iff, List.any_eq_true, decide_eq_true_eq]
  have e : ∀ a b : Str, eqV (.str a) (.str b) = decide (V.str b = V.str a) := fun a b => by
    rw [dec_str]
    exact Bool.beq_comm ..
  constructor
  · rintro ⟨u, hu, h⟩
    obtain ⟨s, hs, rfl⟩ := List.mem_map.mp hu
    rw [e] at h
    have := V.str.inj (of_decide_eq_true h)
    rw [this]
    exact hs
  · intro h
    exact ⟨.str z, List.mem_map.mpr ⟨z, h, rfl⟩, by rw [e]; exact decide_eq_true rfl⟩
end
/-! ### what the law says of them -/
def Now.known (s : Now) (w : Str) : Bool := decide (w ∈ s.reading) || (decide (s.alone = some w) || decide (w ∈ s.queue.map QE.who))
def Now.refused (s : Now) (d : Deed) : Bool :=
  if d.word = wCame then s.known d.who else
  if d.word = wLeft then !s.known d.who else
  if d.word = wAsked then !decide (d.who ∈ s.reading) || decide (s.asked ≠ none) else
  decide (s.alone = none) || decide (s.alone ≠ some d.who)
def Now.small (s : Now) : Prop := s.queue.length ≤ 10000 ∧ s.reading.length ≤ 10000
def spKnown : Sp := fun vs H Q _ => ∃ (p : Addr) (s : Now) (w : Str), vs = [.ref p, .str w] ∧ NowAt noL H p s ∧ s.small ∧ RV (.bl (s.known w)) H Q
theorem sv_known {H : Hp} {p : Addr} {s : Now} {w : Str} (h : NowAt noL H p s) (n : s.small) : SpV spKnown [.ref p, .str w] H (.bl (s.known w)) := fun H1 Q E g q => ⟨p, s, w, rfl, h.mono g, n, q⟩
def spRefused : Sp := fun vs H Q _ => ∃ (p pd : Addr) (s : Now) (d : Deed), vs = [.ref p, .ref pd] ∧ NowAt noL H p s ∧ s.small ∧ H pd = some (.tup d.vs) ∧ RV (.bl (s.refused d)) H Q
def Now.inside (s : Now) : List Str := match s.alone with
  | none => s.reading
  | some a => [a]
def spInside : Sp := fun vs H Q _ => ∃ (p : Addr) (s : Now), vs = [.ref p] ∧ NowAt noL H p s ∧ RR_ (fun v H1 => ∃ r, v = .ref r ∧ H1 r = some (.lst (s.inside.map V.str))) H Q
def Deed.row (d : Deed) : JRow := if d.word = wCame then [d.word, d.who, d.wish] else [d.word, d.who]
def NewTup (H : Hp) (ts : List V) (v : V) (H1 : Hp) : Prop := ∃ t, v = .ref t ∧ H t = none ∧ H1 t = some (.tup ts)
def spRowF : Sp := fun vs H Q _ => ∃ (pd : Addr) (d : Deed), vs = [.ref pd] ∧ H pd = some (.tup d.vs) ∧ RR_ (NewTup H d.row.vs) H Q
/-- who begins from this place -/
def Now.pair (s : Now) (i : Int) (a b : Str) : Prop := (i = -1 ∧ s.asked = some a ∧ b = wr) ∨ ∃ (m : Nat) (e : QE), i = m ∧ s.queue[m]? = some e ∧ a = e.who ∧ b = e.wish
def spPair : Sp := fun vs H Q _ => ∃ (p : Addr) (s : Now) (i : Int) (a b : Str), vs = [.ref p, .int i] ∧ NowAt noL H p s ∧ s.pair i a b ∧ RR_ (NewTup H [.str a, .str b]) H Q
def Now.none : Now := ⟨[], [], Option.none, Option.none⟩
def NewNow (L : Addr → Prop) (H : Hp) (s : Now) (v : V) (H1 : Hp) : Prop := ∃ p, v = .ref p ∧ H p = .none ∧ NowAt L H1 p s
def spFresh : Sp := fun vs H Q _ => ∃ L : Addr → Prop, vs = [] ∧ Live L H ∧ RR_ (NewNow L H Now.none) H Q
/-! ### what a deed does, who begins next -/
def Now.done (s : Now) (d : Deed) : Now :=
  if d.word = wCame then { s with queue := s.queue ++ [⟨d.who, d.wish, 0⟩] } else
  if d.word = wAsked then { s with asked := some d.who } else
  if d.word = wEased then { s with alone := .none, reading := [d.who] } else
  ⟨s.queue.filter (fun e => decide (e.who ≠ d.who)), s.reading.filter (fun x => decide (x ≠ d.who)), if s.alone = some d.who then .none else s.alone, if s.asked = some d.who then .none else s.asked⟩
def scan (pat : Int) : List QE → Nat → Option Nat
  | [], _ => .none
  | e :: l, k => if e.wish = rd then some k else if pat ≤ (e.often : Int) then .none else scan pat l (k + 1)
def Now.next (s : Now) (seats pat : Int) : Option Int :=
  match s.asked with
  | some a => if s.reading = [a] then some (-1) else .none
  | .none => match s.queue with
    | [] => .none
    | e :: _ =>
      if s.alone ≠ .none then .none else
      if e.wish = wr ∧ s.reading = [] then some 0 else
      if seats ≤ (s.reading.length : Int) then .none else
      (scan pat s.queue 0).map fun k => (k : Int)
def QE.bump (e : QE) : QE := ⟨e.who, e.wish, e.often + 1⟩
def Now.began (s : Now) (i : Int) : Now :=
  if i < 0 then { s with alone := s.asked, asked := .none, reading := [] } else
  match s.queue[i.toNat]? with
  | .none => s
  | some e =>
    let q := (s.queue.take i.toNat).map QE.bump ++ s.queue.drop (i.toNat + 1)
    if e.wish = rd then { s with queue := q, reading := s.reading ++ [e.who] } else { s with queue := q, alone := some e.who }
def optI : Option Int → V
  | .none => .non
  | some i => .int i
def Now.good (s : Now) : Prop := s.small ∧ (∀ e ∈ s.queue, nameB e.who = true ∧ (e.wish = rd ∨ e.wish = wr)) ∧ (∀ x ∈ s.reading, nameB x = true) ∧ (∀ x, s.alone = some x → nameB x = true) ∧ ∀ x, s.asked = some x → nameB x = true
def spDone : Sp := fun vs H Q _ => ∃ (L : Addr → Prop) (p pd : Addr) (s : Now) (d : Deed), vs = [.ref p, .ref pd] ∧ Live L H ∧ NowAt L H p s ∧ s.small ∧ H pd = some (.tup d.vs) ∧ d.good ∧ RR_ (NewNow L H (s.done d)) H Q
def spBegan : Sp := fun vs H Q _ => ∃ (L : Addr → Prop) (p : Addr) (s : Now) (i : Int), vs = [.ref p, .int i] ∧ Live L H ∧ NowAt L H p s ∧ s.small ∧ (i = -1 ∨ ∃ m : Nat, i = m ∧ m < s.queue.length) ∧ RR_ (NewNow L H (s.began i)) H Q
def spNext : Sp := fun vs H Q _ => ∃ (p : Addr) (s : Now) (seats pat : Int), vs = [.ref p, .int seats, .int pat] ∧ NowAt noL H p s ∧ s.good ∧ RV (optI (s.next seats pat)) H Q
def qsD (l : List QE) : List PyData := l.map fun e => .tuple [.str e.who, .str e.wish, .int e.often]
theorem dps_qs {K : PySem.W.Frag} {H : Hp} : ∀ {vs : List V} {l : List QE}, TupsAt H QE.vs vs l → DpAll K H vs (qsD l)
  | _, _, .nil => .nil
  | _, _, .cons h t => .cons (.tup (SqT.of h) (.cons (.str _) (.cons (.str _) (.cons (.int _) .nil)))) (dps_qs t)
theorem wish_asc {w : Str} (h : w = rd ∨ w = wr) : Asc w := (word_asc (w := w) (by rcases h with rfl | rfl <;> decide)).1
theorem canLay_qs : ∀ l : List QE, (∀ e ∈ l, nameB e.who = true ∧ (e.wish = rd ∨ e.wish = wr)) → PyData.canLayAll0 (qsD l) = true
  | [], _ => by simp [qsD, PyData.canLayAll0]
  | e :: l, h => by
    have t := canLay_qs l fun b hb => h b (List.mem_cons_of_mem _ hb)
    have a1 := (nameB_is (h e List.mem_cons_self).1).2.2.asc.ok
    have a2 := (wish_asc (h e List.mem_cons_self).2).ok
    unfold qsD at t ⊢
    rw [List.map_cons]
    simp [PyData.canLayAll0, PyData.canLay0, t, a1, a2]
theorem depth_qs : ∀ l : List QE, PyData.depthAll (qsD l) ≤ 1
  | [] => by simp [qsD, PyData.depthAll]
  | e :: l => by
    have t := depth_qs l
    unfold qsD at t ⊢
    rw [List.map_cons]
    simp only [PyData.depthAll, PyData.depth]
    omega
theorem shaped_qs (l : List QE) (h : ∀ e ∈ l, nameB e.who = true ∧ (e.wish = rd ∨ e.wish = wr)) : SeqAt.shaped (.list (qsD l)) = true := by
  have a := canLay_qs l h
  have b := depth_qs l
  unfold SeqAt.shaped
  rw [show PyData.canLay0 (.list (qsD l)) = PyData.canLayAll0 (qsD l) by simp [PyData.canLay0], a, Bool.true_and]
  refine decide_eq_true ?_
  simp only [PyData.depth]
  omega
theorem eqv_strs : ∀ l m : List Str, PyData.eqvAll (l.map PyData.str) (m.map PyData.str) = decide (l = m)
  | [], [] => by simp [PyData.eqvAll]
  | [], _ :: _ => by simp [PyData.eqvAll]
  | _ :: _, [] => by simp [PyData.eqvAll]
  | a :: l, b :: m => by
    have t := eqv_strs l m
    rw [List.map_cons, List.map_cons]
    simp only [PyData.eqvAll, PyData.eqv, t]
    rw [Bool.eq_iff_iff]
    simp
theorem eqv_strL (l m : List Str) : PyData.eqv (.list (l.map PyData.str)) (.list (m.map PyData.str)) = decide (l = m) := by
  rw [PyData.eqv]
  exact eqv_strs l m
section
variable {K : PySem.W.Frag} {σ : L2.St} {H H' : Hp} {t1 t2 t3 : TE} {c1 c2 : TT} {x y z v : V} {D : Ends} {u1 u2 : TS}
/-- dict(d) -/
theorem r_dict {p : Addr} {kvs : List (Key × V)} (h : Vl t1 σ H (.ref p)) (hd : H p = some (.dK kvs)) :
    Vr (tCB (fun xs H Q => ∃ (a : Addr) (kvs : List (Key × V)), xs = [.ref a] ∧ Rd H a (.dK kvs) ∧ ∀ p, H p = none → Q (.ref p) (upd H p (.dK kvs))) (tCons t1 tNil)) σ H (fun v H1 => ∃ n, v = .ref n ∧ H n = none ∧ H1 n = some (.dK kvs)) :=
  fun H1 Q g q => h H1 _ g fun H2 g2 => ⟨p, kvs, rfl, .inl ((g.trans g2).dK hd), fun n hn => q _ _ (g2.trans (.new hn)) ⟨n, rfl, (g.trans g2).free hn, upd_same⟩⟩
/-- xs + [(..)] -/
theorem r_catU {p : Addr} {xs ts : List V} (h : Vl t1 σ H (.ref p)) (hp : H p = some (.lst xs)) (h2 : Tu t2 σ H ts) (n : xs.length ≤ 50000) :
    Vr (tOp rCat t1 (tLst (tCons t2 tNil))) σ H (fun v H1 => ∃ l t, v = .ref l ∧ H l = none ∧ H1 l = some (.lst (xs ++ [.ref t])) ∧ H1 t = some (.tup ts)) :=
  fun H1 Q g q => h H1 _ g fun H2 g2 => h2 H2 _ (g.trans g2) fun t H3 ht g3 e3 => ⟨small (show 1 ≤ 100000 by decide), fun l hl => ⟨p, l, xs, [.ref t], rfl, rfl, (upd_ne (ne_of_none (((g.trans g2).trans g3).lst hp) hl)).trans (((g.trans g2).trans g3).lst hp), upd_same, small (show xs.length + 1 ≤ 100000 by omega), fun l2 hl2 =>
    q _ _ ((g2.trans g3).trans ((Gr.new hl).trans (.new hl2))) ⟨l2, t, rfl, ((g.trans g2).trans g3).free ((Gr.new hl).free hl2), upd_same, ((Gr.new hl).trans (.new hl2)).tup e3⟩⟩⟩
/-- xs + ys, both known -/
theorem r_cat {p : Addr} {xs ys : List V} {R : List V → Hp → Prop} (h : Vl t1 σ H (.ref p)) (hp : H p = some (.lst xs)) (h2 : Ls t2 σ H ys) (n : xs.length + ys.length ≤ 100000) :
    Vr (tOp rCat t1 t2) σ H (fun v H1 => ∃ l, v = .ref l ∧ H l = none ∧ H1 l = some (.lst (xs ++ ys))) :=
  fun H1 Q g q => h H1 _ g fun H2 g2 => h2 H2 _ (g.trans g2) fun b H3 hb g3 e3 => ⟨p, b, xs, ys, rfl, rfl, ((g.trans g2).trans g3).lst hp, e3, small n, fun l hl =>
    q _ _ ((g2.trans g3).trans (.new hl)) ⟨l, rfl, ((g.trans g2).trans g3).free hl, upd_same⟩⟩
theorem Ls.toN {xs : List V} (h : Ls t1 σ H xs) : Vr t1 σ H (fun v H1 => ∃ l, v = .ref l ∧ H l = none ∧ H1 l = some (.lst xs)) := fun H1 Q g q => h H1 Q g fun p H2 hp g2 e => q _ H2 g2 ⟨p, rfl, g.free hp, e⟩
end
/-- what a comprehension that keeps some items leaves: filter -/
theorem kept {α : Type} {f : α → List V} {H : Hp} {xs : List V} {l : List α} (t : TupsAt H f xs l) (p : α → Bool) (g : Nat → Bool) (val : Nat → V) (hg : ∀ m e, l[m]? = some e → g m = p e) (hv : ∀ m u, xs[m]? = some u → val m = u) : TupsAt H f (out l.length g val) (l.filter p) := by
  have key : ∀ n, n ≤ l.length → TupsAt H f (out n g val) ((l.take n).filter p) := by
    intro n
    induction n with
    | zero => exact fun _ => .nil
    | succ n ih =>
      intro hn
      obtain ⟨pt, hpt, ht⟩ := t.get n (List.getElem?_eq_getElem (show n < l.length by omega))
      rw [out_succ, List.take_succ, List.getElem?_eq_getElem (show n < l.length by omega), Option.toList_some, List.filter_append, hg n _ (List.getElem?_eq_getElem (show n < l.length by omega)), hv n _ hpt, List.filter_cons]
      cases p l[n]
      · exact (ih (by omega)).app .nil
      · exact (ih (by omega)).app (.cons ht .nil)
  have := key l.length (Nat.le_refl _)
  rw [List.take_length] at this
  exact this
section
variable {K : PySem.W.Frag} {σ : L2.St} {H H' : Hp} {t1 t2 t3 : TE}
/-- a comprehension that makes a tuple of each tuple of a list -/
theorem r_cmpT {α β : Type} {f : α → List V} {g : β → List V} {F : α → β} {xs : List V} {l : List α} {j : Nat} {ws : List Nat} (h : Ls t2 σ H xs) (tx : TupsAt H f xs l) (hz : xs.length ≤ 40000) (hw : ∀ x, wipe ((wipe σ ws).set j (some x)) ws = wipe σ ws)
    (he : ∀ (p : Addr) (a : α) H1, Gr H H1 → H1 p = some (.tup (f a)) → Tu t1 ((wipe σ ws).set j (some (.ref p))) H1 (g (F a))) :
    Vr (tLc (iList K t2) (gName j) tYes t1 ws) σ H (fun v H1 => ∃ la ya, v = .ref la ∧ H la = none ∧ H1 la = some (.lst ya) ∧ TupsAt H1 g ya (l.map F)) := fun H0 Q gr q => h H0 _ gr fun a H1 ha g1 hx => ⟨a, rfl, ⟨xs, SqL.of hx⟩, fun p hp =>
  lc_list (xs := xs) (fun m H' => H1 p = none ∧ Gr H1 H' ∧ ∃ ya, H' p = some (.lst ya) ∧ TupsAt H' g ya ((l.take m).map F)) ⟨hp, .new hp, [], upd_same, .nil⟩ (fun _ H' _ w => SqL.of (w.2.1.lst hx)) (fun m x H' hm ⟨w1, w2, ya, w3, w4⟩ => by
    have hm' : m < l.length := by
      have := (List.getElem?_eq_some_iff.mp hm).1
      have := tx.length
      omega
    obtain ⟨pt, hpt, ht⟩ := tx.get m (List.getElem?_eq_getElem hm')
    rw [hm] at hpt
    obtain rfl := Option.some.inj hpt
    have gg := (gr.trans g1).trans w2
    have ly := w4.length
    rw [List.length_map, List.length_take] at ly
    have lxx := tx.length
    refine ⟨hw _, s_yes H' _ (.refl _) fun H3 g3 => iteT (he pt l[m] H3 (gg.trans g3) ((gg.trans g3).tup ht) H3 _ (.refl _) fun t H4 _ g4 e4 => ⟨ya, g4.lst (g3.lst w3), small' (by omega), w1, ((w2.trans g3).trans g4).chg w1, ya ++ [.ref t], upd_same, ?_⟩)⟩
    have hp4 := g4.lst (g3.lst w3)
    rw [List.take_succ, List.getElem?_eq_getElem hm', Option.toList_some, List.map_append]
    exact ((w4.mono (g3.trans g4)).chg fun ts z => by rw [hp4] at z; cases z).snoc ((upd_ne fun z => by rw [z, hp4] at e4; cases e4).trans e4)) fun H' ⟨w1, w2, ya, w3, w4⟩ => q _ H' (g1.trans w2) ⟨p, ya, rfl, (gr.trans g1).free w1, w3, by
      rw [List.take_of_length_le (by rw [tx.length]; exact Nat.le_refl _)] at w4
      exact w4⟩⟩
end
section
variable {K : PySem.W.Frag} {σ : L2.St} {H H' : Hp} {t1 t2 t3 : TE} {a1 : TA}
/-- the turns of a comprehension that makes a tuple each -/
def CmpU {β : Type} (H : Hp) (g : β → List V) (F : Nat → β) (p : Addr) (m : Nat) (H' : Hp) : Prop := H p = none ∧ Gr H H' ∧ ∃ ya, H' p = some (.lst ya) ∧ TupsAt H' g ya ((List.range m).map F)
theorem CmpU.turn {β : Type} {g : β → List V} {F : Nat → β} {p : Addr} {m : Nat} {σ2 : L2.St} (w : CmpU H g F p m H') (hm : m < 50000) (he : ∀ H1, Gr H H1 → Tu t1 σ2 H1 (g (F m))) :
    tYes σ2 H' fun b H3 => if b = true then t1 σ2 H3 fun y H4 => ∃ acc, H4 p = some (.lst acc) ∧ acc.length < sizeLine ∧ CmpU H g F p (m + 1) (upd H4 p (.lst (acc ++ [y]))) else CmpU H g F p (m + 1) H3 := by
  obtain ⟨w1, w2, ya, w3, w4⟩ := w
  have ly := w4.length
  rw [List.length_map, List.length_range] at ly
  refine s_yes H' _ (.refl _) fun H3 g3 => iteT (he H3 (w2.trans g3) H3 _ (.refl _) fun t H4 _ g4 e4 => ⟨ya, g4.lst (g3.lst w3), small' (by omega), w1, ((w2.trans g3).trans g4).chg w1, ya ++ [.ref t], upd_same, ?_⟩)
  have hp4 := g4.lst (g3.lst w3)
  rw [List.range_succ, List.map_append]
  exact ((w4.mono (g3.trans g4)).chg fun ts z => by rw [hp4] at z; cases z).snoc ((upd_ne fun z => by rw [z, hp4] at e4; cases e4).trans e4)
theorem r_cmpI {β : Type} {g : β → List V} (F : Nat → β) {n : Int} {j : Nat} {ws : List Nat} (h : Ag a1 σ H [.int n]) (hn : 0 ≤ n ∧ n ≤ 40000) (hw : ∀ x, wipe ((wipe σ ws).set j (some x)) ws = wipe σ ws)
    (he : ∀ (m : Nat) H1, Gr H H1 → (m : Int) < n → Tu t1 ((wipe σ ws).set j (some (.int (m : Int)))) H1 (g (F m))) :
    Vr (tLc (iRng1 a1) (gName j) tYes t1 ws) σ H (fun v H1 => ∃ la ya, v = .ref la ∧ H la = none ∧ H1 la = some (.lst ya) ∧ TupsAt H1 g ya ((List.range n.toNat).map F)) := fun H0 Q gr q => h H0 _ gr fun H1 g1 => ⟨n, rfl, by omega, by omega, fun p hp =>
  lc_range (lo := 0) (n := n.toNat) (CmpU H1 g F p) ⟨hp, .new hp, [], upd_same, .nil⟩ (fun m H' hm w => by
    have e : ∀ H2, Gr H1 H2 → Tu t1 ((wipe σ ws).set j (some (.int (0 + (m : Int))))) H2 (g (F m)) := fun H2 g2 => by
      rw [Int.zero_add]
      exact he m H2 ((gr.trans g1).trans g2) (by omega)
    exact ⟨hw _, w.turn (by omega) e⟩) fun H' ⟨w1, w2, ya, w3, w4⟩ => q _ H' (g1.trans w2) ⟨p, ya, rfl, (gr.trans g1).free w1, w3, w4⟩⟩
theorem r_cmpX {β : Type} {g : β → List V} (F : Nat → β) {a : Addr} {xs : List V} {j : Nat} {ws : List Nat} (h : Vl t2 σ H (.ref a)) (s : SqL K H a xs) (hz : xs.length ≤ 40000) (hw : ∀ x, wipe ((wipe σ ws).set j (some x)) ws = wipe σ ws)
    (he : ∀ (m : Nat) (x : V) H1, Gr H H1 → xs[m]? = some x → Tu t1 ((wipe σ ws).set j (some x)) H1 (g (F m))) :
    Vr (tLc (iList K t2) (gName j) tYes t1 ws) σ H (fun v H1 => ∃ la ya, v = .ref la ∧ H la = none ∧ H1 la = some (.lst ya) ∧ TupsAt H1 g ya ((List.range xs.length).map F)) := fun H0 Q gr q => h H0 _ gr fun H1 g1 => ⟨a, rfl, ⟨xs, (gr.trans g1).sl s⟩, fun p hp =>
  lc_list (xs := xs) (CmpU H1 g F p) ⟨hp, .new hp, [], upd_same, .nil⟩ (fun _ H' _ w => ((gr.trans g1).trans w.2.1).sl s) (fun m x H' hm w => ⟨hw x, w.turn (by have := (List.getElem?_eq_some_iff.mp hm).1; omega) fun H2 g2 => he m x H2 ((gr.trans g1).trans g2) hm⟩)
    fun H' ⟨w1, w2, ya, w3, w4⟩ => q _ H' (g1.trans w2) ⟨p, ya, rfl, (gr.trans g1).free w1, w3, w4⟩⟩
/-- [(..), (..)] -/
theorem r_lst2 {ts us : List V} (h : Tu t1 σ H ts) (h2 : Tu t2 σ H us) : Vr (tLst (tCons t1 (tCons t2 tNil))) σ H (fun v H1 => ∃ l a b, v = .ref l ∧ H l = none ∧ H1 l = some (.lst [.ref a, .ref b]) ∧ H1 a = some (.tup ts) ∧ H1 b = some (.tup us)) := fun H1 Q g q =>
  h H1 _ g fun a H2 _ g2 e2 => h2 H2 _ (g.trans g2) fun b H3 _ g3 e3 => ⟨small (show 2 ≤ 100000 by decide), fun l hl => q _ _ ((g2.trans g3).trans (.new hl)) ⟨l, a, b, rfl, ((g.trans g2).trans g3).free hl, upd_same, (Gr.new hl).tup (g3.tup e2), (Gr.new hl).tup e3⟩⟩
end
/-- the k-th deed -/
def spDeeds (K : PySem.W.Frag) : Sp := fun vs H Q _ => ∃ (a pn pd pp : Addr) (k : Nat) (ns : List Int) (s : Now) (ys : List V) (ds : List Deed) (ps : List Str), vs = [.ref a, .ref pn, .ref pd, .ref pp, .int k] ∧ SqL K H a (ns.map V.int) ∧ NowAt noL H pn s ∧ s.good ∧ H pd = some (.lst ys) ∧ TupsAt H Deed.vs ys ds ∧ (∀ d ∈ ds, d.good) ∧
  H pp = some (.lst (ps.map V.str)) ∧ 1 ≤ ps.length ∧ ps.length ≤ 1000 ∧ (∀ x ∈ ps, nameB x = true) ∧ (ds.length ≤ k → 6 + k - ds.length < ns.length) ∧ RR_ (fun v H1 => ∃ p d, v = .ref p ∧ H1 p = some (.tup (Deed.vs d)) ∧ d.good) H Q

/-! ### which class an exception is of -/
def kindNames : List Str := ["BadName", "BadWish", "Known", "Stranger", "Outside", "Inside", "Reads", "Writes", "Asked", "BadText", "BadJournal", "BadNumber"]
def isK (x y : Str) : Bool := kinds.any fun r => decide (r.1 = x) && (decide (r.2.1 = y) && r.2.2)
def kindsOf (x : Str) : List Int := ((List.range 12).filter fun k => isK x (kindNames.getD k "")).map fun k : Nat => (k : Int)
theorem kit_of {K : PySem.W.Frag} (h : exB K = true) {x y : Str} (hx : x ∈ raised) (hy : y ∈ kindNames) : PySem.W.kitOne K (.ref (He.ga K x)) (.ref (He.ga K y)) = some (isK x y) := by
  have m : ∀ x ∈ raised, ∀ y ∈ kindNames, (x, y, isK x y) ∈ kinds ∧ y ≠ "ValueError" := by decide +kernel
  have k := exB_kit h (m x hx y hy).1
  unfold clsV at k
  rw [if_neg (m x hx y hy).2] at k
  exact k
theorem v_isP {K : PySem.W.Frag} {σ : L2.St} {H : Hp} {t1 : TE} {a : Addr} {x y : Str} (ex : exB K = true) (hx : x ∈ raised) (hy : y ∈ kindNames) (h : Vl t1 σ H (.ref a)) : Vl (tCB (RX.rIsP K a (.ref (He.ga K x)) none) (tCons t1 (tCons (tC (.ref (He.ga K y))) tNil))) σ H (.bl (isK x y)) :=
  v_blt (g_cons h (g_cons v_con g_nil)) fun H1 _ _ q => ⟨He.ga K x, .ref (He.ga K y), .ref (He.ga K y), isK x y, rfl, rfl, exB_exc ex hx, rfl, fun _ e => e, kit_of ex hx hy, q H1 (.refl _)⟩
def spKinds (K : PySem.W.Frag) (a : Addr) (c : Value) (d : Option Addr) : Sp := fun vs H Q _ => ∃ x, vs = [.ref a] ∧ x ∈ raised ∧ c = .ref (He.ga K x) ∧ d = none ∧ RL ((kindsOf x).map V.int) H Q

/-! ### joined, split -/
theorem glue1 (y x : Str) : Txt.join y [x] = x := by
  rw [TL.join_eq]
  rfl
theorem glue (y x : Str) : ∀ {l : List Str}, l ≠ [] → Txt.join y (x :: l) = x ++ y ++ Txt.join y l
  | [], h => absurd rfl h
  | z :: r, _ => by
    rw [TL.join_eq, TL.join_eq]
    rfl
theorem cat_nil (x : Str) : x ++ "" = x := TL.ext_tl (by rw [TL.tl_append]; exact List.append_nil _)
theorem nil_cat (x : Str) : "" ++ x = x := TL.ext_tl (by rw [TL.tl_append]; exact List.nil_append _)
theorem glue0 (x : Str) : ∀ (l : List Str), Txt.join "" (x :: l) = x ++ Txt.join "" l
  | [] => by
    rw [glue1]
    exact (cat_nil x).symm
  | z :: r => by rw [glue _ _ (List.cons_ne_nil _ _), cat_nil]
theorem cat_assoc (a b c : Str) : a ++ b ++ c = a ++ (b ++ c) := congrArg Str.mk (Array.append_assoc (xs := a.cps) (ys := b.cps) (zs := c.cps))
/-- ended lines are lines with nothing behind the last end -/
theorem ended (l : List Str) : Txt.join "" (l.map fun x => x ++ "\n") = Txt.join "\n" (l ++ ([""] : List Str)) := by
  induction l with
  | nil => rw [List.nil_append, glue1]; rfl
  | cons x l ih =>
    rw [List.map_cons, glue0, ih, List.cons_append, glue _ _ (by simp)]
theorem glue_len (y : Str) (n : Nat) (hy : y.length = n) : ∀ (l : List Str) (b : Nat), (∀ x ∈ l, x.length ≤ b) → (Txt.join y l).length ≤ l.length * (b + n)
  | [], b, _ => by rw [TL.join_eq]; exact Nat.zero_le _
  | [x], b, h => by
    rw [glue1]
    have := h x (by simp)
    simp only [List.length_singleton, Nat.one_mul]
    omega
  | x :: z :: r, b, h => by
    rw [glue _ _ (List.cons_ne_nil _ _), cat_len, cat_len, hy]
    have i := glue_len y n hy (z :: r) b fun u hu => h u (List.mem_cons_of_mem _ hu)
    have := h x (by simp)
    rw [List.length_cons, Nat.succ_mul]
    omega
theorem sum_len : ∀ (l : List Str) (b : Nat), (∀ x ∈ l, x.length ≤ b) → (l.map (·.length)).sum ≤ l.length * b
  | [], b, _ => Nat.zero_le _
  | x :: l, b, h => by
    have i := sum_len l b fun u hu => h u (List.mem_cons_of_mem _ hu)
    have := h x (by simp)
    rw [List.map_cons, List.sum_cons, List.length_cons, Nat.succ_mul]
    omega
section
variable {K : PySem.W.Frag} {σ : L2.St} {H H' : Hp} {t1 t2 t3 : TE} {c1 c2 : TT} {x y z v : V} {D : Ends} {u1 u2 : TS}
theorem v_joinT {a : Str} {p : Addr} {ys : List Str} (h : Vl t1 σ H (.str a)) (k : Vl t2 σ H (.ref p)) (s : H p = some (.tup (ys.map V.str))) (n : (ys.map (·.length)).sum + ys.length * a.length ≤ 16777216) : Vl (tBM K "str" (rJoin K) t1 (tCons t2 tNil)) σ H (.str (Txt.join a ys)) :=
  fun H1 Q g q => h H1 _ g fun H2 g2 => ⟨rfl, k H2 _ (g.trans g2) fun H3 g3 => ⟨a, p, ys, rfl, rfl, .inr (SqT.of (((g.trans g2).trans g3).tup s)), n, q H3 (g2.trans g3)⟩⟩
theorem v_joinN {a : Str} {ys : List Str} (h : Vl t1 σ H (.str a)) (k : Ls t2 σ H (ys.map V.str)) (n : (ys.map (·.length)).sum + ys.length * a.length ≤ 16777216) : Vl (tBM K "str" (rJoin K) t1 (tCons t2 tNil)) σ H (.str (Txt.join a ys)) :=
  fun H1 Q g q => h H1 _ g fun H2 g2 => ⟨rfl, k H2 _ (g.trans g2) fun p H3 hp g3 e => ⟨a, p, ys, rfl, rfl, .inl (SqL.of e), n, q H3 (g2.trans g3)⟩⟩
abbrev rSplit : V → List V → Hp → VK → Prop := fun x xs H Q => ∃ a b, x = .str a ∧ xs = [.str b] ∧ (b.length == 0) = false ∧ a.length + 2 ≤ sizeLine ∧ rNewStrs (Txt.split a b) H Q
theorem l_split {a b : Str} (h : Vl t1 σ H (.str a)) (k : Vl t2 σ H (.str b)) (nb : (b.length == 0) = false) (n : a.length + 2 ≤ 100000) : Ls (tBM K "str" rSplit t1 (tCons t2 tNil)) σ H ((Txt.split a b).map V.str) :=
  fun H1 Q g q => h H1 _ g fun H2 g2 => ⟨rfl, k H2 _ (g.trans g2) fun H3 g3 => ⟨a, b, rfl, rfl, nb, small n, fun p hp => q p _ ((g2.trans g3).free hp) ((g2.trans g3).trans (.new hp)) upd_same⟩⟩
theorem if_b {b c : Bool} {A B : Prop} (e : b = c) (h : if c = true then A else B) : if b = true then A else B := e ▸ h
/-- if xs.pop() != a text -/
theorem B_whenPop {l : Addr} {xs : List V} {a b : Str} (h : Vl t1 σ H (.ref l)) (hl : H l = some (.lst xs)) (e : xs[xs.length - 1]? = some (.str a)) (k1 : a ≠ b → ∀ H1, Gr H H1 → u1 { D with nx := u2 D } σ (upd H1 l (.lst xs.dropLast))) (k2 : a = b → ∀ H1, Gr H H1 → u2 D σ (upd H1 l (.lst xs.dropLast))) :
    tSeq (tIfS (tTest (tOp rNe (tBM0 K "list" rPop t1) (tC (.str b)))) u1 tNext) u2 D σ H := h H _ (.refl _) fun H1 g => ⟨.inl ⟨rfl, xs, SqL.of (g.lst hl)⟩, l, xs, .str a, rfl, rfl, g.lst hl, e, rfl, _, rfl, by
  by_cases n : a = b
  · exact if_b (c := false) (by subst n; simp) (iteF (k2 n H1 g))
  · exact if_b (c := true) (by simp [n]) (iteT (k1 n H1 g))⟩
/-- a comprehension whose elements are tuples, told by the place -/
theorem r_cmpV {β : Type} {g : β → List V} (F : Nat → β) {a : Addr} {xs : List V} {j : Nat} {ws : List Nat} (h : Vl t2 σ H (.ref a)) (s : SqL K H a xs) (hz : xs.length ≤ 40000) (hw : ∀ x, wipe ((wipe σ ws).set j (some x)) ws = wipe σ ws)
    (he : ∀ (m : Nat) (x : V) H1, Gr H H1 → xs[m]? = some x → Vr t1 ((wipe σ ws).set j (some x)) H1 (fun v H2 => ∃ p, v = .ref p ∧ H2 p = some (.tup (g (F m))))) :
    Vr (tLc (iList K t2) (gName j) tYes t1 ws) σ H (fun v H1 => ∃ la ya, v = .ref la ∧ H la = none ∧ H1 la = some (.lst ya) ∧ TupsAt H1 g ya ((List.range xs.length).map F)) := fun H0 Q gr q => h H0 _ gr fun H1 g1 => ⟨a, rfl, ⟨xs, (gr.trans g1).sl s⟩, fun p hp =>
  lc_list (xs := xs) (fun m H' => H1 p = none ∧ Gr H1 H' ∧ ∃ ya, H' p = some (.lst ya) ∧ TupsAt H' g ya ((List.range m).map F)) ⟨hp, .new hp, [], upd_same, .nil⟩ (fun _ H' _ w => ((gr.trans g1).trans w.2.1).sl s) (fun m x H' hm ⟨w1, w2, ya, w3, w4⟩ => ⟨hw x, s_yes H' _ (.refl _) fun H3 g3 => iteT (he m x H3 (((gr.trans g1).trans w2).trans g3) hm H3 _ (.refl _) fun v H4 g4 ⟨t, ev, e4⟩ => by
    subst ev
    have hp4 := g4.lst (g3.lst w3)
    have ly := w4.length
    rw [List.length_map, List.length_range] at ly
    have hm2 := (List.getElem?_eq_some_iff.mp hm).1
    refine ⟨ya, hp4, small' (by omega), w1, ((w2.trans g3).trans g4).chg w1, ya ++ [.ref t], upd_same, ?_⟩
    rw [List.range_succ, List.map_append]
    exact ((w4.mono (g3.trans g4)).chg fun ts z => by rw [hp4] at z; cases z).snoc ((upd_ne fun z => by rw [z, hp4] at e4; cases e4).trans e4))⟩)
    fun H' ⟨w1, w2, ya, w3, w4⟩ => q _ H' (g1.trans w2) ⟨p, ya, rfl, (gr.trans g1).free w1, w3, w4⟩⟩
/-- a new tuple made of a new list -/
theorem u_ofL {xs : List V} (h : Ls t1 σ H xs) : Tu (tCB (fun xs H Q => ∃ p ys, xs = [.ref p] ∧ ((SqL K H p ys ∧ ∀ l, H l = none → Q (.ref l) (upd H l (.tup ys))) ∨ (SqT K H p ys ∧ Q (.ref p) H))) (tCons t1 tNil)) σ H xs :=
  fun H1 Q g q => h H1 _ g fun p H2 hp g2 e => ⟨p, xs, rfl, .inl ⟨SqL.of e, fun l hl => q l _ (g2.free hl) (g2.trans (.new hl)) upd_same⟩⟩
end
theorem things_str {K : PySem.W.Frag} {H : Hp} {ws : List Str} {b : Nat} (hb : b ≤ 100000) (h : ∀ s ∈ ws, s.length ≤ b) : ∀ x ∈ ws.map V.str, Thing K x H := fun x hx => by
  obtain ⟨s, hs, rfl⟩ := List.mem_map.mp hx
  exact .inl ⟨s, rfl, Nat.le_trans (h s hs) hb⟩
/-- a line's words -/
def wordsOf (z : Str) : JRow := Txt.split z " "
def lineOk (z : Str) : Bool := rowV (JRow.vs (wordsOf z))
def spRowOf (K : PySem.W.Frag) (P : Addr) : Sp := fun vs H Q E => ∃ z : Str, vs = [.str z] ∧ GxR.TabG H P ∧ z.length ≤ 10000 ∧ (lineOk z = true → RR_ (fun v H1 => ∃ p, v = .ref p ∧ H1 p = some (.tup (JRow.vs (wordsOf z)))) H Q) ∧ (lineOk z = false → ∀ H1, Gr H H1 → E (.ref (He.ga K "BadText")) none H1)

section
--CUT
/-! ### exceptions raised while one is handled: what their context is -/
namespace RY
open PySem PySem.Spec PyProof.Rows L2
def Cy (y : Addr) (o : Obj) : Prop := ∀ vs : Array Value, o.data = .fields vs → vs[2]? = some (.ref y)
theorem set_ne {vs : Array Value} {i j : Nat} {v : Value} (h : i ≠ j) : (vs.setIfInBounds i v)[j]? = vs[j]? := by simp [Array.getElem?_setIfInBounds, h]
theorem Cy.steady {y : Addr} : PXN.Steady1 (Cy y) := fun o v h => by
  obtain ⟨c, d, dt, sl⟩ := o
  cases dt with
  | fields vs0 =>
    intro vs e
    rw [← Data.fields.inj (show Data.fields (vs0.setIfInBounds 1 v) = Data.fields vs from e), set_ne (by decide)]
    exact h vs0 rfl
  | _ => intro vs e; exact nomatch (show _ = Data.fields vs from e)
def Zy (y : Addr) (cls : Value) (d : Option Addr) (o : Obj) : Prop := Zc cls d o ∧ Cy y o
theorem Zy.steady {y : Addr} {cls : Value} {d : Option Addr} : PXN.Steady1 (Zy y cls d) := fun o v h => ⟨⟨PXN.steady_cls o v h.1.1, PXN.steady_dict o v h.1.2⟩, Cy.steady o v h.2⟩
theorem traced_more {h B : Heap} {a : Addr} {Z Z' : Obj → Prop} {fl : Value} (m : ∀ oe, h.get? a = some oe → Z oe → Z' oe) (x : HandSPX.TracedZ h B a Z fl) : HandSPX.TracedZ h B a Z' fl :=
  let ⟨oe, vs, T, oT, ts, he, hz, r⟩ := x; ⟨oe, vs, T, oT, ts, he, m oe he hz, r⟩
theorem sky_more {B h : Heap} {l : List Env} {a L : Addr} {Z Z' : Obj → Prop} (m : ∀ oe, h.get? a = some oe → Z oe → Z' oe) (x : Sky B l a Z L h) : Sky B l a Z' L h := by
  rcases x with ⟨a1, a2, a3, oe, vs, he, hz, r⟩ | ⟨a1, a2, a3, t⟩ | ⟨a1, a2, a3, t⟩
  · exact .inl ⟨a1, a2, a3, oe, vs, he, m oe he hz, r⟩
  · exact .inr (.inl ⟨a1, a2, a3, traced_more m t⟩)
  · exact .inr (.inr ⟨a1, a2, a3, traced_more m t⟩)
/-- the exception's context is what stands at y -/
def Has (y : Addr) (u : Value) (s' : Shared) : Prop := ∃ a oe, u = .ref a ∧ s'.heap.get? a = some oe ∧ Cy y oe
def Air (y : Addr) (X : Cx) (W : WX) (u : Value) (s' : Shared) : Prop := L2.XE X W u s' ∧ Has y u s'
def Tk (y : Addr) (X : Cx) (W : WX) : Prop := ∀ u s', Air y X W u s' → X.xe u s'
def CXy (y : Addr) (P : Program) (w : World) : CXT := fun outer H s E u s' => L2.CX P w outer H s E u s' ∧ Has y u s'
section
variable {X : Cx} {y : Addr} {W : WX} {E : XK} {s' : Shared}
theorem passAt (tk : Tk y X W) (σ : L2.St) : PassesAt (CXy y X.prog X.w) X σ (WE W σ) := fun _ _ _ e s' I c => tk e s' ⟨L2.XE.of_call I (fun _ _ _ h => h) c.1, c.2⟩
theorem tkN {X : Cx} : Tk y X fun _ _ _ _ => False := by
  rintro _ _ ⟨⟨_, _, _, _, _, _, _, _, _, _, _, _, _, _, _, _, z⟩, _⟩
  exact z.elim
theorem leave (hs : X.stack = X.env :: X.outer) (hf : X.env.frame = some X.env.locals) (hex : X.ex = []) {E₁ : Value → Shared → Prop} {u : Value} (x : Air y X (fun cls d _ H => E cls d H) u s') :
    wpAny (model X.prog X.w) X.A (leaving X.env u) (fun _ s2 => CXy y X.prog X.w X.outer X.H_0 X.s_0 E u s2) E₁ s' := by
  obtain ⟨⟨a, B, sI, pins, σ, H, cls, d, rfl, I, nb, up, sky0, na, os, ag, wE⟩, a', ob, ea, hob, cob⟩ := x
  cases ea
  have sky : Sky B X.stack a (Zy y cls d) X.env.locals s'.heap := sky_more (fun oe he z => ⟨z, by rw [hob] at he; cases he; exact cob⟩) sky0
  have notSt : ∀ b o, X.s_0.heap.get? b = some o → b ∉ X.fs → b ∉ frs X.stack := fun b o hbo nf hm => (List.mem_cons.mp (I.stkSub b hm)).elim
    (fun z => absurd (Nat.lt_of_lt_of_le (z ▸ Heap.lt_size hbo) I.ok.above) (Nat.lt_irrefl _)) nf
  have noX : ∀ b, b ∉ X.ex := fun b => by rw [hex]; exact List.not_mem_nil
  have done : ∀ h2, HandSPX.FlyingZ B X.outer a (Zy y cls d) h2 → s'.heap.UpToSlots h2 → CXy y X.prog X.w X.outer X.H_0 X.s_0 E (.ref a) { s' with heap := h2 } := fun h2 fl up2 => by
    have hasY : Has y (.ref a) { s' with heap := h2 } := by
      obtain ⟨_, _, _, oe, _, _, _, _, he, hz, _⟩ := fl
      exact ⟨a, oe, rfl, he, hz.2⟩
    obtain ⟨f1, f2, f3, f4⟩ := fl
    have ub : UB X.fs X.H_0 H X.s_0.heap B h2 := {
      keep := fun b o hbo n nf => nb b o (I.base.keep b o hbo n nf (noX b)) (notSt b o hbo nf)
      slot := fun b o hbo hb => by
        obtain ⟨_, o0, g0, nfd⟩ := I.ok.funs.mem hb
        cases hbo.symm.trans g0
        obtain ⟨sl1, g1⟩ := I.base.slot b o hbo (I.ok.frf b hb) hb (noX b)
        obtain ⟨sl2, g2⟩ := up b _ g1 nfd
        obtain ⟨sl3, g3⟩ := up2 b _ g2 nfd
        exact ⟨sl3, g3⟩
      free := fun b o hbo n => I.base.free b o hbo n (noX b)
      there := fun b o hbo nf => by
        obtain ⟨o2, g2⟩ := I.base.there b o hbo (noX b)
        exact ⟨o2, nb b o2 g2 (notSt b o hbo nf)⟩
      tups := I.base.tups
      frzs := I.base.frzs
      tbls := I.base.tbls }
    exact ⟨⟨a, B, H, cls, d, rfl, ⟨f1, f2, f3, traced_more (fun _ _ z => z.1) f4⟩, I.inGround nb, ub, na, os.trans I.os, ag, wE⟩, hasY⟩
  have frs2 : X.A.frames = some (X.env :: X.outer) := I.ok.frames.trans (congrArg some hs)
  rw [hs] at sky
  rcases sky with ⟨q1, q2, q3, oe, vs, he, hz, hd, h1⟩ | q | q
  · exact PXN.leaving_firstZ Zy.steady frs2 q3 hf he q1 q2 hd h1 hz done
  · exact PXN.leaves_onZ Zy.steady frs2 hf q done
  · exact HandSPX.leaves_heldZ hf q done
/-- what a def lets out -/
theorem tk_of (hs : X.stack = X.env :: X.outer) (hf : X.env.frame = some X.env.locals) (hex : X.ex = []) {E₁ : Value → Shared → Prop}
    (hx : X.xe = fun e s1 => wpAny (model X.prog X.w) X.A (leaving X.env e) (fun _ s2 => CXy y X.prog X.w X.outer X.H_0 X.s_0 E e s2) E₁ s1) : Tk y X (fun cls d _ H => E cls d H) := fun u s1 x => by
  rw [hx]; exact leave hs hf hex x
theorem raiseY {z : Addr × Obj} {e : Expr} {t : L2.St → Hp → XK → Prop} {pos : Pos} (hz : L2H.Hot1 X.A z) (hp : z ∈ X.pn) (tk : Tk z.1 X W) (he : L2N.PMk X e t) : PS X (.Raise (some e) none pos) (fun _ σ H => t σ H fun cls d H' => W cls d σ H') := ⟨fun pins s σ H D I h => by
  obtain ⟨hh, v0, e0, c0⟩ := hz
  show wpAny _ _ (standAt pos >>= fun _ => raiseStmt X.env (some (eval e X.env >>= fun v => standAt pos >>= fun _ => pure v)) none) _ _ _
  refine wpAny_bind (wpAny_standAt (HotX.raise_made_hot (x1 := z.1) (wpAny_bind (wpAny_mono (he pins s σ H _ I h) (fun u s1 hu => wpAny_bind (wpAny_standAt (wpAny_pure ?_))) fun _ _ x => x))))
  obtain ⟨a, oe, vs, sI, H', cls, d, rfl, J, k, hne, ha, zn, hd, h1, na, os, ag, r, q⟩ := hu
  have stands := (J.pin z (List.mem_append_left _ hp)).1
  have zne : z.1 ≠ a := fun w => by rw [w, hne] at stands; cases stands
  have sz : 2 < vs.size := (Array.getElem?_eq_some_iff.mp (zn.2.2 vs hd)).1
  have isub := r (model X.prog X.w) s1.heap (J.kIn.keeps k)
  have up := Heap.get?_update_self (Obj.mapFields (·.setIfInBounds 2 (.ref z.1))) ha (Obj.isFreed_of_fields (Obj.data_mapFields hd _))
  have hd2 := Obj.data_mapFields hd (·.setIfInBounds 2 (.ref z.1))
  refine ⟨a, oe, vs, cls, rfl, ha, zn.1, hd, h1, sz, zne, ⟨hh, z.2, v0, k _ _ stands, e0, c0⟩, isub.1, isub.2, tk _ _ ⟨L2.XE.new J (fun b o hbo => ?_) hne up ⟨(Obj.cls_mapFields ..).trans zn.1, (HandSPX.dict_mapFields ..).trans zn.2.1⟩ hd2 ((set_ne (by decide)).trans h1) na os ag q,
    a, _, rfl, up, fun vs' ev => ?_⟩⟩
  · exact (Heap.get?_update_other _ _ (fun w : a = b => by rw [← w, hne] at hbo; cases hbo)).trans (k b o hbo)
  · rw [hd2] at ev
    cases ev
    simp [Array.getElem?_setIfInBounds, sz]⟩
end
/-! ### defs called while the exception at y is handled -/
structure FnY (y : Addr × Obj) (P : Program) (w : World) (K : PySem.W.Frag) (mg : Str → Option Value) (base : Heap) (CX : CXT) (k : Nat) (f : Addr) (fd : FuncData) (ps : List Str) (sp : Sp) : Prop where
  len : ∀ vs H Q E, sp vs H Q E → vs.length = ps.length
  run : ∀ (A : Around) (outer : List Env) (s : Shared) (H : Hp) (args : Args) (us : List Value) (vs : List V) (Q : VK) (E : XK), L2H.RoomH k A → L2H.Hot1 A y → L2H.PinOk outer H s y → Env0 P w K mg base A outer s H →
    BindsTo s fd args (ps.zip us) → Vals vs us → sp vs H Q E → codeAny (model P w) A (.call (.ref f) args) (CR CX outer P w H s Q E) s
section
variable {P : Program} {w : World} {K : PySem.W.Frag} {mg : Str → Option Value} {base : Heap} {x qual : Str} {st : Stmt} {f : Addr} {fd : FuncData} {N ps : List Str} {k : Nat} {sp : Sp} {y : Addr × Obj}
theorem okY {CX : CXT} (F : Fun K x qual st f fd) (S : FnScope N ps (defScope st)) (len : ∀ vs H Q E, sp vs H Q E → vs.length = ps.length)
    (h : ∀ (cdv : Value) (A : Around) (outer : List Env) (s : Shared) (H : Hp) (vs : List V) (Q : VK) (E : XK), L2H.Hot1 A y → L2H.RoomH k (A.deeper (envOfC qual (defScope st) s.heap.objs.size f cdv)) → sp vs H Q E →
      ∃ t, PSs (L2H.cxH CX P w K mg base N qual (defScope st) f cdv A outer s H E y) (defBody st) t ∧ t ⟨fun _ H' => Q .non H', Q, fun _ _ => False, fun _ _ => False⟩ (start N vs) H) : FnY y P w K mg base CX (k + 1) f fd ps sp := by
  obtain ⟨_, _, _, _, _, _, cdv, _, _, rfl, lk, hcd⟩ := F.ex
  refine ⟨len, fun A outer s H args us vs Q E hr hot hpin e0 hb r hsp => ?_⟩
  have hin : K.In s.heap := e0.mod.kin.keeps fun b o hbo => (e0.bs b o hbo).1
  refine codeAny_call_function hr.depth (hin _ _ lk) rfl S.co S.gen rfl (PySem.W.codeRec_of hin hcd) (hb _ _ _ _ (wpAny_newFunctionEnv_cells S.kind (fun y hy => ?_) fun env he s1 c => ?_))
  · rcases S.par y.1 (List.of_mem_zip (show (y.1, y.2) ∈ _ from hy)).1 with q | q
    · exact .inl q
    · exact .inr ⟨q, PySem.W.cellsFrom_some _ _ _ (.inl q)⟩
  subst he
  obtain ⟨t, ht, hq⟩ := h cdv A outer s H vs Q E hot (hr.deeper _) hsp
  have I := L2H.inv_startH (CX := CX) (E := E) S hpin e0 (len _ _ _ _ hsp) r c
  have nl : s.heap.NoLimit := e0.mod.nolimit.keeps fun b o hbo => (e0.bs b o hbo).1
  refine ⟨nl.keeps c.toInCall.keep, codeAny_func (wpAny_mono (ht.run [] s1 _ H _ I hq) (fun fl s' hs => ?_) fun _ _ hs => hs)⟩
  cases fl with
  | ret u => exact let ⟨v, _, H', J, rv, q⟩ := hs; ⟨v, H', J.os, J.bare, J.base, J.hok, rv, q⟩
  | next => exact let ⟨_, H', J, q⟩ := hs; ⟨.non, H', J.os, J.bare, J.base, J.hok, rfl, q⟩
  | brk => exact let ⟨_, _, _, q⟩ := hs; q.elim
  | cont => exact let ⟨_, _, _, q⟩ := hs; q.elim
end
section
variable {X : Cx} {CX : CXT} {k : Nat} {f C : Addr} {fd : FuncData} {ps : List Str} {sp : Sp} {E : L2.St → XK} {x : Str} {p pos : Pos} {e : Expr} {es : List Expr} {t : TA} {y : Addr × Obj}
theorem room_make {A : Around} (r : L2H.RoomH (k + 1) A) (C : Addr) (us : List Value) : L2H.RoomH k (A.under (.builtin "type.__call__" ⟨.ref C :: us, []⟩)) := by
  obtain ⟨d, u⟩ := r
  constructor
  · rw [make_depth]; omega
  · rw [make_units]; omega
theorem run_makeY {pins : List (Addr × Obj)} {σ : L2.St} {H : Hp} {s : Shared} {Q : VK} {us : List Value} {vs : List V} {F' : XK} (M : Mk X.K C f) (F : FnY y X.prog X.w X.K X.mg X.base CX k f fd ps sp) (hr : L2H.RoomH (k + 1) X.A) (hz : L2H.Hot1 X.A y) (hp : y ∈ X.pn) (hb : Binds X.K fd ps [])
    (hx : PassesAt CX X σ F') (I : Inv X pins σ H s) (r : Vals vs us)
    (h : ∀ a dx, H a = none → H dx = none → dx ≠ a → sp (.ref a :: vs) (upd (upd H dx (.own a)) a (.ins C dx [])) (fun v H2 => v = .non ∧ Q (.ref a) H2) F') :
    wpAny (model X.prog X.w) X.A (call (.ref C) us) (EP X pins σ Q) X.xe s := by
  have q := h (s.heap.objs.size + 1) s.heap.objs.size (I.hok.fresh (Nat.le_succ _)) (I.hok.fresh (Nat.le_refl _)) (Nat.ne_of_lt (Nat.lt_succ_self _))
  have J := Inv.made (C := C) I
  have r2 : Vals (V.ref (s.heap.objs.size + 1) :: vs) (Value.ref (s.heap.objs.size + 1) :: us) := .cons rfl r
  have b := hb _ (Value.ref (s.heap.objs.size + 1) :: us) J.kIn (by rw [List.append_nil]; exact r2.length.symm.trans (F.len _ _ _ _ q))
  rw [List.append_nil] at b
  have pj := J.pin y (List.mem_append_left _ hp)
  refine wpAny_call (make_map (f := f) I.kIn M.makes M.init (beq_iff_eq.mp M.fn) (codeAny_mono (F.run _ X.stack _ _ ⟨Value.ref (s.heap.objs.size + 1) :: us, []⟩ _ _ _ F' (room_make hr C us) ⟨hz.1, hz.2⟩
    ⟨pj.1, pj.2.1, fun hm => (List.mem_cons.mp (J.stkSub _ hm)).elim pj.2.2.1 pj.2.2.2.1, pj.2.2.2.2⟩ (J.env0.make C us []) b r2 q) fun r s' hq => ?_))
  cases r with
  | error e => exact hx pins _ _ e s' J hq
  | ok fl =>
    cases fl with
    | ret u =>
      obtain ⟨v, H', I3, rv, rfl, q3⟩ := J.after hq
      exact ⟨rv, ⟨V.ref (s.heap.objs.size + 1), H', I3, rfl, q3⟩⟩
    | next => exact hq.elim
    | brk => exact hq.elim
    | cont => exact hq.elim
theorem pe_makeY (M : Mk X.K C f) (F : FnY y X.prog X.w X.K X.mg X.base CX k f fd ps sp) (hr : L2H.RoomH (k + 1) X.A) (hz : L2H.Hot1 X.A y) (hp : y ∈ X.pn) (hg : Gl X x) (hm : X.mg x = some (.ref C)) (hb : Binds X.K fd ps []) (hx : ∀ σ, PassesAt CX X σ (E σ)) (ha : PA X (e :: es) t)
    (hdb : (x == ("__debug__" : Str)) = false := by decide) (he : starEach (e :: es) X.env = (false, eval e X.env) :: starEach es X.env := by rfl) (hpl : (backTo pos (starEach es X.env)).any (·.1) = false := by rfl) : PE X (.Call (.Name x p) (e :: es) [] pos) (RX.tMakeA C sp E t) := ⟨fun pins s σ H Q I h => by
  refine wpAny_Call_Name_kw (ld_glob I hg hm (PySem.W.callWith_K (h₀ := X.base) I.ok.mod.kin M.kp (thn (ha.run pos pins s σ H _ I h) fun us s1 hus => ?_) he hpl) hdb)
  obtain ⟨vs, H1, I1, r, q⟩ := hus
  exact ⟨I1.kIn, run_makeY M F hr hz hp hb (hx σ) I1 r q⟩⟩
end
end RY

--CUT
/-! ### try .. except x as n within an except suite; what runs while the second exception is handled -/
namespace RY
open PySem PySem.Spec PyProof.Rows L2
/-- the exception's class is the clause's -/
def wYs (K : PySem.W.Frag) (c : Value) (i : Nat) (ts : Addr → Value → Option Addr → TS) (D : Ends) : WX := fun cls d σ H => PySem.W.exmOne K cls c = some true ∧
  ∀ a, H a = none → ts a cls d { nx := fun σ1 H1 => D.nx (σ1.set i none) H1, rt := D.rt, bk := fun σ1 H1 => D.bk (σ1.set i none) H1, ct := fun σ1 H1 => D.ct (σ1.set i none) H1 } (σ.set i (some (.ref a))) H
section
variable {X : Cx} {x n : Str} {c : Value} {i : Nat} {body suite : List Stmt} {b₀ : Stmt} {np pos pos' : Pos} {tb : WX → TS} {ts : Addr → Value → Option Addr → TS} {z : Addr × Obj}
theorem try_asY {K : PySem.W.Frag} (hK : X.K = K) (hs : X.stack = X.env :: X.outer) (hf : X.env.frame = some X.env.locals) (hN : X.N.Nodup) (hi : X.N[i]? = some n) (hln : X.env.kindOf n = some .local) (hc : L2.Names X x c) (hp : z ∈ X.pn)
    (hb : ∀ (W : WX) (pn : List (Addr × Obj)) (xe : Value → Shared → Prop), z ∈ pn → Tk z.1 (X.tr pn xe) W → PassesOwn (model X.prog X.w) X.A X.env xe → PSs (X.tr pn xe) body (tb W))
    (hsu : ∀ (a : Addr) (oe : Obj) (cls : Value) (d : Option Addr) (pn : List (Addr × Obj)), Zy z.1 cls d oe → (∃ vs, oe.data = .fields vs) → z.1 ≠ a → z ∈ pn → PSs (X.suite a ((a, oe) :: pn)) (b₀ :: suite) (ts a cls d)) :
    PS X (.Try body [.ExceptHandler (some (.Name x np)) (some n) (b₀ :: suite) pos'] [] [] pos) (fun D σ H => tb (wYs K c i ts D) D σ H) := ⟨fun pins s σ H D I h => by
  subst hK
  have okX := I.ok
  have frs2 : X.A.frames = some (X.env :: X.outer) := I.ok.frames.trans (congrArg some hs)
  refine wpAny_Try_except (wpAny_mono ((hb (wYs X.K c i ts D) (X.pn ++ pins) (fun e s1 => wpAny (model X.prog X.w) X.A (noteFrame e X.env) (fun _ s2 => wpAny (model X.prog X.w) X.A (setFlight e none) (fun _ s3 =>
    wpAny (model X.prog X.w) X.A (handleBy e X.env [.ExceptHandler (some (.Name x np)) (some n) (b₀ :: suite) pos']) (SP X pins D) X.xe s3) X.xe s2) X.xe s1) (List.mem_append_left _ hp) (fun u s' xx => ?_) PassesOwn.looking).run [] s σ H D (I.toTry _) h) (fun f s1 hsp => ?_) (fun _ _ he => he))
  · obtain ⟨⟨a, B, sI, pins', σ', H', cls, d, rfl, J', nb, up, sky0, na, os, ag, hex, hyes⟩, a', ob, ea, hob, cob⟩ := xx
    cases ea
    have J : Inv X pins σ' H' sI := J'.ofTry okX
    have sky : Sky B (X.env :: X.outer) a (Zy z.1 cls d) X.env.locals s'.heap := hs ▸ sky_more (fun oe he zc => ⟨zc, by rw [hob] at he; cases he; exact cob⟩) sky0
    have PZ := J.pin z (List.mem_append_left _ hp)
    refine L2N.Sky.land Zy.steady frs2 hf sky fun h3 fl3 up3 => ?_
    have inB : B.get? z.1 = some z.2 := nb _ _ PZ.1 fun hm => (List.mem_cons.mp (J.stkSub _ hm)).elim PZ.2.2.1 PZ.2.2.2.1
    have zna : z.1 ≠ a := fun w => by rw [w, fl3.2.1] at inB; cases inB
    have J3 : Inv X pins σ' H' { s' with heap := h3 } := J.landed nb fl3.1 (up.trans up3) os ag
    obtain ⟨oe3, vs3, he3, hz3, hd3⟩ := fl3.there
    have nfr : a ∉ frs (X.env :: X.outer) := fun hm => by
      obtain ⟨_, o2, g2, nfd⟩ := fl3.2.2.1.mem hm
      cases he3.symm.trans g2
      exact nfd _ hd3
    have nL : a ≠ X.env.locals := fun w => nfr (List.mem_filterMap.mpr ⟨X.env, .head _, hf.trans (congrArg some w.symm)⟩)
    have nF : a ∉ X.fs := fun hm => nfr (by
      obtain ⟨ev, me, q⟩ := List.mem_filterMap.mp hm
      exact List.mem_filterMap.mpr ⟨ev, .tail _ me, q⟩)
    have S3 := J3.suite he3 hd3 na nL nF
    have isC : PySem.W.Looks (model X.prog X.w) h3 (typeOf (.ref a)) cls := fun A Q E s k q => wpAny_typeOf_ref (k _ _ he3) (by rw [hz3.1.1]; exact q)
    refine wpAny_handleBy_cons (codeAny_handlers_test ?_) (fun q => nomatch q)
    have named : ∀ {Q E : Value → Shared → Prop}, Q c { s' with heap := h3 } → wpAny (model X.prog X.w) (X.A.mark (some (.ref a))) (eval (.Name x np) X.env) Q E { s' with heap := h3 } := fun {Q E} q => by
      rcases hc with ⟨hg, hdbg, hm | ⟨hm, hv, hnn⟩⟩
      · exact ld_glob (X := X.suite a ((a, oe3) :: (X.pn ++ pins))) S3 hg hm q hdbg
      · exact ld_blt (X := X.suite a ((a, oe3) :: (X.pn ++ pins))) S3 hg hm hv q hnn hdbg
    refine named ((PySem.W.exm_one (M := model X.prog X.w) J3.kIn isC hex).here (codeAny_handlers_suite_as (HandSPX.lands_againZ fl3 fun h4 fl4 up4 => ?_)))
    have J4 : Inv X pins σ' H' { s' with heap := h4 } := J.landed nb fl4.1 ((up.trans up3).trans up4) os ag
    obtain ⟨oe4, vs4, he4, hz4, hd4⟩ := fl4.there
    refine store_ok (X := X.suite a ((a, oe4) :: (X.pn ++ pins))) (v := .ref a) (J4.suite he4 hd4 na nL nF) hN hi (.inl hln) rfl (fun s5 S5 => ?_) (.inr hln)
    refine wpAny_mono ((hsu a oe4 cls d (X.pn ++ pins) hz4 ⟨_, hd4⟩ zna (List.mem_append_left _ hp)).run [] s5 _ H' _ S5 (hyes a na)) (fun f s6 hsp => ?_) (fun _ _ w => w.elim)
    have goes : ∀ {σ6 : L2.St} {H6 : Hp} {Q : Shared → Prop}, Inv (X.suite a ((a, oe4) :: (X.pn ++ pins))) [] σ6 H6 s6 → (∀ s7, Inv X pins (σ6.set i none) H6 s7 → Q s7) →
      wpAny (model X.prog X.w) X.A (bindName X.env n .none >>= fun _ => unbindBehindTheSuite X.env n pos') (fun _ s7 => Q s7) X.xe s6 := fun S6 hq => gone_ok (S6.unsuite okX) hN hi hln hq
    cases f with
    | next => exact let ⟨_, _, S6, q6⟩ := hsp; goes S6 fun s7 J7 => ⟨_, _, J7, q6⟩
    | brk => exact let ⟨_, _, S6, q6⟩ := hsp; goes S6 fun s7 J7 => ⟨_, _, J7, q6⟩
    | cont => exact let ⟨_, _, S6, q6⟩ := hsp; goes S6 fun s7 J7 => ⟨_, _, J7, q6⟩
    | ret u => exact let ⟨_, _, _, S6, r6, q6⟩ := hsp; goes S6 fun s7 J7 => ⟨_, _, _, J7, r6, q6⟩
  · cases f with
    | next => exact let ⟨_, _, J2, q⟩ := hsp; wpAny_execs_nil ⟨_, _, J2.ofTry okX, q⟩
    | brk => exact let ⟨_, _, J2, q⟩ := hsp; ⟨_, _, J2.ofTry okX, q⟩
    | cont => exact let ⟨_, _, J2, q⟩ := hsp; ⟨_, _, J2.ofTry okX, q⟩
    | ret u => exact let ⟨_, _, _, J2, r, q⟩ := hsp; ⟨_, _, _, J2.ofTry okX, r, q⟩⟩
end
/-! ### a chain of two -/
/-- p is handled, q is its context, q has none -/
structure Hot2 (A : Around) (p q : Addr × Obj) : Prop where
  hd : A.handled = some (.ref p.1)
  fp : ∃ vs : Array Value, p.2.data = .fields vs ∧ vs[2]? = some (.ref q.1)
  fq : ∃ vs : Array Value, q.2.data = .fields vs ∧ vs[2]? = some .none
  ne : q.1 ≠ p.1
/-- the same of a heap -/
structure Two (A : Around) (x1 x0 : Addr) (h : Heap) : Prop where
  hd : A.handled = some (.ref x1)
  f1 : ∃ (o : Obj) (vs : Array Value), h.get? x1 = some o ∧ o.data = .fields vs ∧ vs[2]? = some (.ref x0)
  f0 : ∃ (o : Obj) (vs : Array Value), h.get? x0 = some o ∧ o.data = .fields vs ∧ vs[2]? = some .none
  ne : x0 ≠ x1
def HotD (X : Cx) : Prop := ∃ p q : Addr × Obj, Hot2 X.A p q ∧ p ∈ X.pn ∧ q ∈ X.pn
theorem HotD.two {X : Cx} {pins : List (Addr × Obj)} {σ : L2.St} {H : Hp} {s : Shared} (c : HotD X) (I : Inv X pins σ H s) : ∃ x1 x0, Two X.A x1 x0 s.heap := by
  obtain ⟨p, q, ⟨hd, ⟨v1, e1, c1⟩, ⟨v0, e0, c0⟩, ne⟩, hp, hq⟩ := c
  exact ⟨p.1, q.1, hd, ⟨p.2, v1, (I.pin p (List.mem_append_left _ hp)).1, e1, c1⟩, ⟨q.2, v0, (I.pin q (List.mem_append_left _ hq)).1, e0, c0⟩, ne⟩
section
variable {prog : Program} {w : World} {A : Around} {E : Value → Shared → Prop} {s : Shared}
theorem beqN {a : Addr} : (Value.ref a == Value.none) = false := by simp
theorem beqR {a b : Addr} (h : a ≠ b) : (Value.ref a == Value.ref b) = false := by simp [h]
theorem unchain2 {x1 x0 a : Addr} {Q : Value → Shared → Prop} (t : Two A x1 x0 s.heap) (n0 : x0 ≠ a) (q : Q .none s) :
    wpAny (model prog w) A (holding [Value.ref a] (runValue (.builtin "proto.unchain" ⟨[.ref a, .ref x1, .ref x1, .bool false], []⟩))) Q E s := by
  obtain ⟨_, ⟨o1, v1, g1, d1, c1⟩, ⟨o0, v0, g0, d0, c0⟩, ne⟩ := t
  refine wpAny_holding (wpAny_runValue (codeAny_builtin HotX.entry_unchain ?_))
  show wpAny _ _ (field (.ref x1) 2 >>= _) _ _ s
  refine wpAny_bind (wpAny_field g1 d1 c1 ?_)
  rw [if_neg (by rw [beqN]; decide), if_neg (by rw [beqR n0]; decide), if_neg (by rw [beqR ne]; decide)]
  refine wpAny_bind (wpAny_pure (wpAny_pure ⟨Code.quiet_builtin _ (by decide +kernel), codeAny_builtin HotX.entry_unchain ?_⟩))
  show wpAny _ _ (field (.ref x0) 2 >>= _) _ _ s
  refine wpAny_bind (wpAny_field g0 d0 c0 ?_)
  rw [if_pos (show (Value.none == Value.none) = true from rfl)]
  first
  | exact wpAny_bind (wpAny_pure (wpAny_pure q))
  | exact wpAny_pure q
theorem raiseNew2 {α : Type} {a x1 x0 : Addr} {oe : Obj} {vs : Array Value} {Q : α → Shared → Prop} (t : Two A x1 x0 s.heap) (n1 : x1 ≠ a) (n0 : x0 ≠ a) (ha : s.heap.get? a = some oe) (da : oe.data = .fields vs) (hi : 2 < vs.size)
    (hE : E (.ref a) { s with heap := s.heap.update a (Obj.mapFields (·.setIfInBounds 2 (.ref x1))) }) : wpAny (model prog w) A (raiseNew (.ref a) : Sem α) Q E s := by
  unfold raiseNew
  refine wpAny_bind (wpAny_handled ?_)
  rw [t.hd]
  have hb : (Value.ref x1 != Value.ref a) = true := HotX.ref_bne n1
  first
  | (show wpAny _ _ (if (Value.ref x1 != Value.ref a) = true then _ else _) _ _ _
     rw [if_pos hb]
     first
     | exact wpAny_bind (unchain2 t n0 (wpAny_bind (HotX.chained ha da hi (wpAny_throw hE))))
     | exact wpAny_bind (wpAny_bind (unchain2 t n0 (HotX.chained ha da hi (wpAny_throw hE)))))
  | (refine wpAny_bind ?_
     show wpAny _ _ (if (Value.ref x1 != Value.ref a) = true then _ else _) _ _ _
     rw [if_pos hb]
     exact wpAny_bind (unchain2 t n0 (HotX.chained ha da hi (wpAny_throw hE))))
theorem range_end2 {it x1 x0 : Addr} {x left step : Int} {Q : Option Value → Shared → Prop} (t : Two A x1 x0 s.heap) (hit : IsRangeIter s.heap it x left step) (hleft : left ≤ 0)
    (hQ : ∀ h', (∀ b o, s.heap.get? b = some o → h'.get? b = some o) → Q none { s with heap := h' }) : wpAny (model prog w) A (pyNext (.ref it)) Q E s := by
  have isR : s.TypeIs (.ref it) "range_iterator" := ⟨_, hit, rfl⟩
  have two := t
  obtain ⟨hd, ⟨o1, v1, g1, d1, c1⟩, ⟨o0, v0, g0, d0, c0⟩, ne⟩ := t
  unfold pyNext
  refine wpAny_bind (wpAny_attempt (wpAny_callSpecial?_slot (name := Str.ofString "__next__") isR F.slot_range_iterator_next (wpAny_call_entry F.slot_range_iterator_next isR F.entry_range_iterator_next ?_ (F.args_range_iterator_next_1 _))))
  show wpAny _ _ (field (.ref it) 0 >>= _) _ _ s; refine wpAny_bind (wpAny_field hit rfl (x := rawInt x) rfl ?_)
  show wpAny _ _ (field (.ref it) 1 >>= _) _ _ s; refine wpAny_bind (wpAny_field hit rfl (x := rawInt left) rfl ?_)
  show wpAny _ _ (field (.ref it) 2 >>= _) _ _ s; refine wpAny_bind (wpAny_field hit rfl (x := rawInt step) rfl ?_)
  show wpAny _ _ (if left ≤ 0 then _ else _) _ _ s
  rw [if_pos hleft]
  refine wpAny_bind (wpAny_rule (wpAny_bind ?_))
  show wpAny _ _ (newExc (.type "StopIteration") [] >>= _) _ _ _; refine wpAny_bind ?_
  simp only [newExc, newTuple]
  refine wpAny_bind (wpAny_newObj_type ?_ (by size_fits))
  refine wpAny_bind (m := firstArgMember _ _) (wpAny_of_eq (a := Value.none) (by first | rfl | (simp only [firstArgMember]; rfl)) ?_); refine wpAny_newObj_type ?_ (by size_fits)
  have k1 := Heap.get?_push_of_some { cls := .type "StopIteration", dict := none, data := .fields #[.ref s.heap.objs.size, .none, .none, .none, .bool false, .none] } (Heap.get?_push_of_some { cls := .type "tuple", data := .seq ([] : List Value).toArray } g1)
  refine raiseNew2 (x1 := x1) (x0 := x0) ⟨hd, ⟨o1, v1, Heap.get?_push_of_some _ (Heap.get?_push_of_some _ g1), d1, c1⟩, ⟨o0, v0, Heap.get?_push_of_some _ (Heap.get?_push_of_some _ g0), d0, c0⟩, ne⟩ (Nat.ne_of_lt (Heap.lt_size (Heap.get?_push_of_some _ g1)))
    (Nat.ne_of_lt (Heap.lt_size (Heap.get?_push_of_some _ g0))) (Heap.get?_push_size _ rfl) rfl (by first | (simp; done) | (simp; omega) | (simp only [Array.size_append]; simp; omega)) ?_
  refine wpAny_bind (wpAny_isInstance (T := "StopIteration") (b := true) ⟨_, Heap.get?_update_self _ (Heap.get?_push_size _ rfl) rfl, rfl⟩ isSubtype_stop (wpAny_pure (hQ _ fun b o e => ?_)))
  exact (Heap.get?_update_other _ _ (Nat.ne_of_gt (Heap.lt_size (Heap.get?_push_of_some _ e)))).trans (Heap.get?_push_of_some _ (Heap.get?_push_of_some _ e))
end
section
variable {X : Cx} {tg a : Expr} {body : List Stmt} {ta : TA} {g : TG} {tb : TS} {p pos pos' : Pos}
theorem for2 (hp : PassesOwn (model X.prog X.w) X.A X.env X.xe) (hc : HotD X) (hr : Gl X "range") (hm : X.mg "range" = none) (ha : PA X [a] ta) (hg : PG X tg g) (hb : PSs X body tb)
    (hs : ∀ x, foldedSetIterable (.Call (.Name "range" p) [a] [] pos) X.env x = pure x := by intro _; rfl) (hst : starEach [a] X.env = [(false, eval a X.env)] := by rfl) : PS X (.For tg (.Call (.Name "range" p) [a] [] pos) body [] pos') (tFor (iRng1 ta) g tb) := ⟨fun pins s σ H D I h => by
  refine wpAny_For (Call_ (ld_blt I hr hm boot_range (PyProof.Rows.callWith_type1 (thn (ha.run pos pins s σ H _ I h) fun us s1 hus => ?_) hst rfl))) hs
  obtain ⟨vs, H1, I1, r1, j, rfl, b1, b2, W, ⟨m0, w0⟩, turn⟩ := hus
  obtain ⟨u0, rv, rfl⟩ : ∃ u0, RelV (.int j) u0 ∧ us = [u0] := by
    cases r1 with
    | cons r2 r3 => cases r3; exact ⟨_, r2, rfl⟩
  obtain ⟨tok, rfl⟩ := (show ∃ t, u0 = Value.int j t from rv)
  refine call_range_1 ?_
  refine wpAny_pyIter_range (IsRange.new ..) (small_one (by omega) (by omega) b1 b2) ?_
  have I2 := I1.kept (h' := s1.heap.push { cls := .type "range", data := .fields #[.int 0 s1.toks, .int j tok, .int 1 (s1.toks + 1)] }) (t' := s1.toks + 1 + 1) fun b o e => Heap.get?_push_of_some _ e
  generalize s1.heap.push { cls := .type "range", data := .fields #[.int 0 s1.toks, .int j tok, .int 1 (s1.toks + 1)] } = hp2 at I2 ⊢
  have f2 : FpOk X pins H1 hp2.objs.size := I2.fpOk (Nat.le_refl _) (I2.hok.fresh (Nat.le_refl _))
  have I3 := I2.kept (h' := hp2.push { cls := .type "range_iterator", data := .fields #[rawInt 0, rawInt (Builtin.Range.rangeSize 0 j 1), rawInt 1] }) (t' := s1.toks + 1 + 1) fun b o e => Heap.get?_push_of_some _ e
  have at0 : IsRangeIter (hp2.push { cls := .type "range_iterator", data := .fields #[rawInt 0, rawInt (Builtin.Range.rangeSize 0 j 1), rawInt 1] }) hp2.objs.size (((0 : Nat) : Int)) ((j.toNat : Int) - ((0 : Nat) : Int)) 1 := by
    have e : (j.toNat : Int) - ((0 : Nat) : Int) = Builtin.Range.rangeSize 0 j 1 := by rw [rangeSize_one]; split <;> omega
    rw [e]
    exact Heap.get?_push_size _ rfl
  generalize hp2.push { cls := .type "range_iterator", data := .fields #[rawInt 0, rawInt (Builtin.Range.rangeSize 0 j 1), rawInt 1] } = hp3 at I3 at0 ⊢
  generalize hp2.objs.size = it at f2 at0 ⊢
  have pinIt : ∀ {h : Heap} {i : Nat}, IsRangeIter h it (i : Int) ((j.toNat : Int) - (i : Int)) 1 → ∀ b ∈ [it], ∃ o, h.get? b = some o ∧ ∀ v, o.data ≠ .cell v := fun st b hb => by
    cases List.mem_singleton.mp hb
    exact ⟨_, st, fun v w => nomatch (show Data.fields _ = Data.cell v from w)⟩
  refine codeAny_forLoop_any (fun m s' => ∃ (i : Nat) (σ' : L2.St) (H' : Hp), Inv X pins σ' H' s' ∧ IsRangeIter s'.heap it (i : Int) ((j.toNat : Int) - (i : Int)) 1 ∧ H' it = none ∧ W i m σ' H') ?_ m0 ⟨0, σ, H1, I3, at0, f2.1, w0⟩
  rintro m s3 ⟨i, σ3, H3, J3, st3, n3, w3⟩
  obtain ⟨_, g1, g2, g3, g4, g5⟩ := f2
  rcases turn i m σ3 H3 w3 with ⟨stop, qn⟩ | ⟨go, N, hN, step⟩
  · obtain ⟨x1, x0, two⟩ := hc.two J3
    exact wpAny_passesOwn hp (range_end2 two st3 (by have : j.toNat ≤ i := stop; omega) fun h' kk => wpAny_execs_nil ⟨σ3, H3, J3.turned (t' := s3.toks) (fun b o _ e => kk b o e) n3 g1 g3 g4 g5, qn⟩)
  · have lt : i < j.toNat := go
    refine wpAny_passesOwn hp (wpAny_pyNext_range_item st3 (by omega) fun h' st' sb => ?_)
    have J4 : Inv X pins σ3 H3 { s3 with heap := h', toks := s3.toks + 1 } := J3.turned (fun b o hb e => (sb.2 b hb).trans e) n3 g1 g3 g4 g5
    have st4 : IsRangeIter h' it (((i + 1 : Nat) : Int)) ((j.toNat : Int) - ((i + 1 : Nat) : Int)) 1 := by
      have e1 : (i : Int) + 1 = ((i + 1 : Nat) : Int) := by omega
      have e2 : (j.toNat : Int) - (i : Int) - 1 = (j.toNat : Int) - ((i + 1 : Nat) : Int) := by omega
      rw [← e2, ← e1]
      exact st'
    refine wpAny_passesOwn hp (go_of (n := "range_iterator") st4 rfl rfl (by decide) ?_)
    have J5 := J4.pinned (fp := [it]) (fun b hb => by cases List.mem_singleton.mp hb; exact ⟨n3, g1, g2, g3, g4, g5⟩) (pinIt st4)
    refine wpAny_passesOwn hp (thn (hg.run _ _ σ3 H3 (.int (0 + (i : Int))) _ _ J5 ⟨s3.toks, by rw [Int.zero_add]⟩ (step _ H3 ⟨rfl, rfl⟩)) fun _ s6 ⟨σ6, H6, J6, q6⟩ => ?_)
    refine wpAny_passesOwn hp (thn (hb.run _ s6 σ6 H6 _ J6 q6) fun fl s7 q7 => ?_)
    have again : ∀ {σ7 : L2.St} {H7 : Hp}, Inv X (pins ++ pinsAt [it] h') σ7 H7 s7 → N σ7 H7 → ∃ m', m' < m ∧ ∃ (i' : Nat) (σ' : L2.St) (H' : Hp), Inv X pins σ' H' s7 ∧ IsRangeIter s7.heap it (i' : Int) ((j.toNat : Int) - (i' : Int)) 1 ∧ H' it = none ∧ W i' m' σ' H' := fun {σ7 H7} J7 n7 => by
      obtain ⟨m', lm, w7⟩ := hN σ7 H7 n7
      have pn := J7.pin _ (List.mem_append_right _ (List.mem_append_right _ (mem_pinsAt (List.mem_singleton.mpr rfl) st4)))
      exact ⟨m', lm, i + 1, σ7, H7, J7.unpinned, pn.1, pn.2.1, w7⟩
    cases fl with
    | next => exact let ⟨_, _, J7, n7⟩ := q7; again J7 n7
    | cont => exact let ⟨_, _, J7, n7⟩ := q7; again J7 n7
    | brk => exact let ⟨σ7, H7, J7, q⟩ := q7; ⟨σ7, H7, J7.unpinned, q⟩
    | ret v => exact let ⟨x7, σ7, H7, J7, r7, q⟩ := q7; ⟨x7, σ7, H7, J7.unpinned, r7, q⟩⟩
end
end RY

--CUT
/-! ### a def that is handed the second exception -/
namespace RY
open PySem PySem.Spec PyProof.Rows L2
structure FnE2 (P : Program) (w : World) (K : PySem.W.Frag) (mg : Str → Option Value) (base : Heap) (CX : CXT) (k : Nat) (f : Addr) (fd : FuncData) (ps : List Str) (sp : Addr → Value → Option Addr → Sp) : Prop where
  len : ∀ a c d vs H Q E, sp a c d vs H Q E → vs.length = ps.length
  run : ∀ (A : Around) (outer : List Env) (s : Shared) (H : Hp) (args : Args) (us : List Value) (vs : List V) (Q : VK) (E : XK) (z y : Addr × Obj) (c : Value) (d : Option Addr), L2H.RoomH k A → Hot2 A z y → L2H.PinOk outer H s z → L2H.PinOk outer H s y → Zc c d z.2 → Env0 P w K mg base A outer s H →
    BindsTo s fd args (ps.zip us) → Vals vs us → sp z.1 c d vs H Q E → codeAny (model P w) A (.call (.ref f) args) (CR CX outer P w H s Q E) s
/-- the context of such a def's body -/
abbrev cxD (CX : CXT) (P : Program) (w : World) (K : PySem.W.Frag) (mg : Str → Option Value) (base : Heap) (N : List Str) (qual : Str) (scope : Scope) (f : Addr) (cd : Value) (A : Around) (outer : List Env) (s : Shared) (H : Hp) (E : XK) (z y : Addr × Obj) : Cx :=
  (L2H.cxH CX P w K mg base N qual scope f cd A outer s H E z).tr [z, y] (cxOf CX P w K mg base N qual scope f cd A outer s H E).xe
section
variable {P : Program} {w : World} {K : PySem.W.Frag} {mg : Str → Option Value} {base : Heap} {x qual : Str} {st : Stmt} {f : Addr} {fd : FuncData} {N ps : List Str} {k : Nat} {sp : Addr → Value → Option Addr → Sp}
theorem okD {CX : CXT} (F : Fun K x qual st f fd) (S : FnScope N ps (defScope st)) (len : ∀ a c d vs H Q E, sp a c d vs H Q E → vs.length = ps.length)
    (h : ∀ (cdv : Value) (A : Around) (outer : List Env) (s : Shared) (H : Hp) (vs : List V) (Q : VK) (E : XK) (z y : Addr × Obj) (c : Value) (d : Option Addr), Hot2 A z y → Zc c d z.2 → L2H.RoomH k (A.deeper (envOfC qual (defScope st) s.heap.objs.size f cdv)) → sp z.1 c d vs H Q E →
      ∃ t, PSs (cxD CX P w K mg base N qual (defScope st) f cdv A outer s H E z y) (defBody st) t ∧ t ⟨fun _ H' => Q .non H', Q, fun _ _ => False, fun _ _ => False⟩ (start N vs) H) : FnE2 P w K mg base CX (k + 1) f fd ps sp := by
  obtain ⟨_, _, _, _, _, _, cdv, _, _, rfl, lk, hcd⟩ := F.ex
  refine ⟨len, fun A outer s H args us vs Q E z y cc dd hr hot pz py hc e0 hb r hsp => ?_⟩
  have hin : K.In s.heap := e0.mod.kin.keeps fun b o hbo => (e0.bs b o hbo).1
  refine codeAny_call_function hr.depth (hin _ _ lk) rfl S.co S.gen rfl (PySem.W.codeRec_of hin hcd) (hb _ _ _ _ (wpAny_newFunctionEnv_cells S.kind (fun y hy => ?_) fun env he s1 c => ?_))
  · rcases S.par y.1 (List.of_mem_zip (show (y.1, y.2) ∈ _ from hy)).1 with q | q
    · exact .inl q
    · exact .inr ⟨q, PySem.W.cellsFrom_some _ _ _ (.inl q)⟩
  subst he
  obtain ⟨t, ht, hq⟩ := h cdv A outer s H vs Q E z y cc dd hot hc (hr.deeper _) hsp
  have I0 := L2H.inv_startH (CX := CX) (E := E) S pz e0 (len _ _ _ _ _ _ _ hsp) r c
  obtain ⟨h1, tk1, rfl, kept⟩ := c.done
  have I : Inv (cxD CX P w K mg base N qual (defScope st) f cdv A outer s H E z y) [] (start N vs) H { s with heap := h1, toks := tk1 } := Inv.toTry (pins := [y]) (X := L2H.cxH CX P w K mg base N qual (defScope st) f cdv A outer s H E z)
    ⟨I0.ok, I0.os, I0.bare, I0.base, I0.loc, I0.cell, I0.free, I0.freeC, fun q hq => (by
      rcases List.mem_append.mp hq with hq | hq
      · exact I0.pin q (List.mem_append_left _ hq)
      · cases List.mem_singleton.mp hq
        exact ⟨kept _ _ py.get, py.free, Nat.ne_of_lt (Heap.lt_size py.get), py.nofs, py.nocell⟩), I0.hok, I0.len⟩ _
  have nl : s.heap.NoLimit := e0.mod.nolimit.keeps fun b o hbo => (e0.bs b o hbo).1
  refine ⟨nl.keeps c.toInCall.keep, codeAny_func (wpAny_mono (ht.run [] _ _ H _ I hq) (fun fl s' hs => ?_) fun _ _ hs => hs)⟩
  cases fl with
  | ret u => exact let ⟨v, _, H', J, rv, q⟩ := hs; ⟨v, H', J.os, J.bare, J.base, J.hok, rv, q⟩
  | next => exact let ⟨_, H', J, q⟩ := hs; ⟨.non, H', J.os, J.bare, J.base, J.hok, rfl, q⟩
  | brk => exact let ⟨_, _, _, q⟩ := hs; q.elim
  | cont => exact let ⟨_, _, _, q⟩ := hs; q.elim
end
section
variable {X : Cx} {CX : CXT} {k : Nat} {f : Addr} {fd : FuncData} {ps : List Str} {sp : Addr → Value → Option Addr → Sp} {E : L2.St → XK} {x : Str} {p pos : Pos} {e : Expr} {es : List Expr} {t : TA} {a : Addr} {oe : Obj} {y : Addr × Obj} {c : Value} {d : Option Addr}
theorem pinOk {pins : List (Addr × Obj)} {σ : L2.St} {H : Hp} {s : Shared} {z : Addr × Obj} (I : Inv X pins σ H s) (h : z ∈ X.pn) : L2H.PinOk X.stack H s z :=
  let q := I.pin z (List.mem_append_left _ h); ⟨q.1, q.2.1, fun hm => (List.mem_cons.mp (I.stkSub _ hm)).elim q.2.2.1 q.2.2.2.1, q.2.2.2.2⟩
theorem pe_callD (F : FnE2 X.prog X.w X.K X.mg X.base CX k f fd ps sp) (hr : L2H.RoomH k X.A) (hz : Hot2 X.A (a, oe) y) (hp : (a, oe) ∈ X.pn) (hy : y ∈ X.pn) (hc : Zc c d oe) (hg : Gl X x) (hm : X.mg x = some (.ref f)) (hk : PySem.W.keepIn X.K (.ref f) = true) (hb : Binds X.K fd ps [])
    (hx : ∀ σ, PassesAt CX X σ (E σ)) (ha : PA X (e :: es) t) (hdb : (x == ("__debug__" : Str)) = false := by decide) (he : starEach (e :: es) X.env = (false, eval e X.env) :: starEach es X.env := by rfl) (hpl : (backTo pos (starEach es X.env)).any (·.1) = false := by rfl) :
    PE X (.Call (.Name x p) (e :: es) [] pos) (RX.tCallE a c d sp E t) := ⟨fun pins s σ H Q I h => by
  refine wpAny_Call_Name_kw (ld_glob I hg hm (PySem.W.callWith_K (h₀ := X.base) I.ok.mod.kin hk (thn (ha.run pos pins s σ H _ I h) fun us s1 hus => ?_) he hpl) hdb)
  obtain ⟨vs, H1, J, r, q⟩ := hus
  have b := hb s1 us J.kIn (by rw [List.append_nil]; exact r.length.symm.trans (F.len _ _ _ _ _ _ _ q))
  rw [List.append_nil] at b
  refine ⟨J.kIn, wpAny_call (codeAny_mono (F.run X.A X.stack s1 H1 ⟨us, []⟩ us vs Q (E σ) (a, oe) y c d hr hz (pinOk J hp) (pinOk J hy) hc J.env0 b r q) fun r s' hq => ?_)⟩
  cases r with
  | error e => exact hx σ pins H1 s1 e s' J hq
  | ok fl =>
    cases fl with
    | ret u => exact J.after hq
    | next => exact hq.elim
    | brk => exact hq.elim
    | cont => exact hq.elim⟩
theorem deep {A A' : Around} {z y : Addr × Obj} (h : Hot2 A z y) (e : A'.handled = A.handled) : Hot2 A' z y := ⟨e.trans h.hd, h.fp, h.fq, h.ne⟩
theorem fields_of2 {A : Around} {z y : Addr × Obj} (h : Hot2 A z y) : ∃ vs, z.2.data = .fields vs := let ⟨vs, e, _⟩ := h.fp; ⟨vs, e⟩
theorem roomH2 {k : Nat} {A : Around} {h h' : Option Value} (r : Room k A) : L2H.RoomH k ((A.mark h).mark h') := ⟨r.dp, r.un⟩
/-- the second exception handled: its context is the first -/
theorem hot2_suite {a1 : Addr} {o1 : Obj} {cls1 cls : Value} {d1 d : Option Addr} {A : Around} (z1 : L2N.Zn cls1 d1 o1) (f1 : ∃ vs, o1.data = .fields vs) (z2 : Zy a1 cls d oe) (f2 : ∃ vs, oe.data = .fields vs) (ne : a1 ≠ a) : Hot2 (A.mark (some (.ref a))) (a, oe) (a1, o1) := by
  obtain ⟨v1, e1⟩ := f1
  obtain ⟨v2, e2⟩ := f2
  exact ⟨rfl, ⟨v2, e2, z2.2 v2 e2⟩, ⟨v1, e1, z1.2.2 v1 e1⟩, ne⟩
end
end RY

/-! ### calls of such defs -/
namespace RY
open PySem PySem.Spec PyProof.Rows L2
section
variable {X : Cx} {CX : CXT} {k : Nat} {f : Addr} {fd : FuncData} {ps : List Str} {sp : Sp} {E : L2.St → XK} {x : Str} {p pos : Pos} {e : Expr} {es : List Expr} {t : TA} {y : Addr × Obj}
theorem pe_callY (F : FnY y X.prog X.w X.K X.mg X.base CX k f fd ps sp) (hr : L2H.RoomH k X.A) (hz : L2H.Hot1 X.A y) (hp : y ∈ X.pn) (hg : Gl X x) (hm : X.mg x = some (.ref f)) (hk : PySem.W.keepIn X.K (.ref f) = true) (hb : Binds X.K fd ps []) (hx : ∀ σ, PassesAt CX X σ (E σ)) (ha : PA X (e :: es) t)
    (hdb : (x == ("__debug__" : Str)) = false := by decide) (he : starEach (e :: es) X.env = (false, eval e X.env) :: starEach es X.env := by rfl) (hpl : (backTo pos (starEach es X.env)).any (·.1) = false := by rfl) : PE X (.Call (.Name x p) (e :: es) [] pos) (tCallS sp E t) := ⟨fun pins s σ H Q I h => by
  refine wpAny_Call_Name_kw (ld_glob I hg hm (PySem.W.callWith_K (h₀ := X.base) I.ok.mod.kin hk (thn (ha.run pos pins s σ H _ I h) fun us s1 hus => ?_) he hpl) hdb)
  obtain ⟨vs, H1, J, r, q⟩ := hus
  have b := hb s1 us J.kIn (by rw [List.append_nil]; exact r.length.symm.trans (F.len _ _ _ _ q))
  rw [List.append_nil] at b
  refine ⟨J.kIn, wpAny_call (codeAny_mono (F.run X.A X.stack s1 H1 ⟨us, []⟩ us vs Q (E σ) hr hz (pinOk J hp) J.env0 b r q) fun r s' hq => ?_)⟩
  cases r with
  | error e => exact hx σ pins H1 s1 e s' J hq
  | ok fl =>
    cases fl with
    | ret u => exact J.after hq
    | next => exact hq.elim
    | brk => exact hq.elim
    | cont => exact hq.elim⟩
end
end RY
namespace RH
open PySem PySem.Spec PyProof.Rows L2
/-- a def that holds a generator expression, called while an exception is handled -/
theorem okHC {CX : CXT} {P : Program} {w : World} {K : PySem.W.Frag} {mg : Str → Option Value} {base : Heap} {x qual : Str} {st : Stmt} {f c : Addr} {fd : FuncData} {N ps : List Str} {k : Nat} {sp : Sp} (F : Fun K x qual st f fd) (hc : fd.code = .ref c) (S : FnScope N ps (defScope st)) (len : ∀ vs H Q E, sp vs H Q E → vs.length = ps.length)
    (h : ∀ (A : Around) (outer : List Env) (s : Shared) (H : Hp) (vs : List V) (Q : VK) (E : XK) (z : Addr × Obj), L2H.Hot1 A z → L2H.RoomH k (A.deeper (envOfC qual (defScope st) s.heap.objs.size f (.ref c))) → sp vs H Q E →
      ∃ t, PSs (L2H.cxH CX P w K mg base N qual (defScope st) f (.ref c) A outer s H E z) (defBody st) t ∧ t ⟨fun _ H' => Q .non H', Q, fun _ _ => False, fun _ _ => False⟩ (start N vs) H) : L2H.FnH P w K mg base CX (k + 1) f fd ps sp := by
  obtain ⟨_, _, _, _, _, _, cv, _, _, rfl, lk, hcd⟩ := F.ex
  have e : cv = .ref c := hc
  subst e
  exact L2H.fn_ofH lk hcd S len fun A outer s H vs Q E z => h A outer s H vs Q E z
end RH

--CUT
/-! ### iterators and generators while an exception is handled -/
namespace RH
open PySem PySem.Spec PyProof.Rows HotX
/-- what stands at x has no context -/
def StN (x : Addr) (h : Heap) : Prop := ∃ (o : Obj) (vs : Array Value), h.get? x = some o ∧ o.data = .fields vs ∧ vs[2]? = some .none
theorem StN.keep {x : Addr} {h h' : Heap} (z : StN x h) (k : ∀ o, h.get? x = some o → h'.get? x = some o) : StN x h' := let ⟨o, vs, a, b⟩ := z; ⟨o, vs, k o a, b⟩
section
variable {prog : Program} {w : World} {A : Around} {E : Value → Shared → Prop} {s : Shared} {x1 : Addr}
/-- a new StopIteration is raised -/
theorem stop_new {α : Type} {Q : α → Shared → Prop} (hh : A.handled = some (.ref x1)) (z : StN x1 s.heap) (h : ∀ e h', (∀ b o, s.heap.get? b = some o → h'.get? b = some o) → (∃ o, h'.get? e = some o ∧ o.cls = .type "StopIteration") → E (.ref e) { s with heap := h' }) :
    wpAny (model prog w) A (newExc (.type "StopIteration") [] >>= fun e => (raiseNew e : Sem α)) Q E s := by
  refine wpAny_bind ?_
  simp only [newExc, newTuple]
  refine wpAny_bind (wpAny_newObj_type (wpAny_bind (m := firstArgMember _ _) (wpAny_of_eq (a := Value.none) (by first | rfl | (simp only [firstArgMember]; rfl)) (wpAny_newObj_type ?_ (by size_fits)))) (by size_fits))
  obtain ⟨o, vs, g, d, c⟩ := z
  refine raiseNew_hot ⟨hh, o, vs, Heap.get?_push_of_some _ (Heap.get?_push_of_some _ g), d, c⟩ (Nat.ne_of_lt (Heap.lt_size (Heap.get?_push_of_some _ g))) (Heap.get?_push_size _ rfl) rfl (by first | (simp; done) | (simp; omega) | (simp only [Array.size_append]; simp; omega)) (h _ _ (fun b u e => ?_) ⟨_, Heap.get?_update_self _ (Heap.get?_push_size _ rfl) rfl, rfl⟩)
  exact (Heap.get?_update_other _ _ (Nat.ne_of_gt (Heap.lt_size (Heap.get?_push_of_some _ e)))).trans (Heap.get?_push_of_some _ (Heap.get?_push_of_some _ e))
theorem stop_newK {α β : Type} {K : β → Sem α} {Q : α → Shared → Prop} (hh : A.handled = some (.ref x1)) (z : StN x1 s.heap) (h : ∀ e h', (∀ b o, s.heap.get? b = some o → h'.get? b = some o) → (∃ o, h'.get? e = some o ∧ o.cls = .type "StopIteration") → E (.ref e) { s with heap := h' }) :
    wpAny (model prog w) A (newExc (.type "StopIteration") [] >>= fun e => (raiseNew e : Sem β) >>= K) Q E s := by
  refine wpAny_bind ?_
  simp only [newExc, newTuple]
  refine wpAny_bind (wpAny_newObj_type (wpAny_bind (m := firstArgMember _ _) (wpAny_of_eq (a := Value.none) (by first | rfl | (simp only [firstArgMember]; rfl)) (wpAny_newObj_type ?_ (by size_fits)))) (by size_fits))
  obtain ⟨o, vs, g, d, c⟩ := z
  refine wpAny_bind (raiseNew_hot ⟨hh, o, vs, Heap.get?_push_of_some _ (Heap.get?_push_of_some _ g), d, c⟩ (Nat.ne_of_lt (Heap.lt_size (Heap.get?_push_of_some _ g))) (Heap.get?_push_size _ rfl) rfl (by first | (simp; done) | (simp; omega) | (simp only [Array.size_append]; simp; omega)) (h _ _ (fun b u e => ?_) ⟨_, Heap.get?_update_self _ (Heap.get?_push_size _ rfl) rfl, rfl⟩))
  exact (Heap.get?_update_other _ _ (Nat.ne_of_gt (Heap.lt_size (Heap.get?_push_of_some _ e)))).trans (Heap.get?_push_of_some _ (Heap.get?_push_of_some _ e))
theorem ascii_endH {it : Addr} {x : Str} {t : Tok} {i : Nat} {Q : Option Value → Shared → Prop} (hh : A.handled = some (.ref x1)) (z : StN x1 s.heap) (ne : x1 ≠ it) (hit : s.heap.IsStrIter it "str_ascii_iterator" x t i) (hx : x.cps[i]? = none)
    (hQ : ∀ h', (∀ b o, b ≠ it → s.heap.get? b = some o → h'.get? b = some o) → Q none { s with heap := h' }) : wpAny (model prog w) A (pyNext (.ref it)) Q E s := by
  obtain ⟨o, ho, hc, hd⟩ := id hit
  unfold pyNext
  refine wpAny_bind (wpAny_attempt (wpAny_callSpecial?_slot (name := Str.ofString "__next__") hit.typeIs F.slot_str_ascii_iterator_next (wpAny_call_entry F.slot_str_ascii_iterator_next hit.typeIs F.entry_str_ascii_iterator_next ?_ (F.args_str_ascii_iterator_next_1 _))))
  show wpAny _ _ (field (.ref it) 0 >>= _) _ _ s; refine wpAny_bind (wpAny_field ho hd (x := .str x t) rfl ?_)
  show wpAny _ _ (field (.ref it) 1 >>= _) _ _ s; refine wpAny_bind (wpAny_field ho hd (x := .int i 0) rfl ?_)
  simp only [Int.toNat_natCast, hx]
  refine wpAny_bind (wpAny_rule (wpAny_bind (wpAny_setField ho hd (by simp) (wpAny_bind (wpAny_letGo (stop_new (x1 := x1) hh (z.keep fun o' e' => (Heap.get?_update_other _ _ (Ne.symm ne)).trans e') fun e h' kk ⟨oe, ge, ce⟩ => ?_))))))
  exact wpAny_bind (wpAny_isInstance (T := "StopIteration") (b := true) ⟨_, ge, ce⟩ isSubtype_stop (wpAny_pure (hQ _ fun b u nb e => kk b u ((Heap.get?_update_other _ _ (Ne.symm nb)).trans e))))
theorem wide_endH {it : Addr} {x : Str} {t : Tok} {i : Nat} {Q : Option Value → Shared → Prop} (hh : A.handled = some (.ref x1)) (z : StN x1 s.heap) (ne : x1 ≠ it) (hit : s.heap.IsStrIter it "str_iterator" x t i) (hx : x.cps[i]? = none)
    (hQ : ∀ h', (∀ b o, b ≠ it → s.heap.get? b = some o → h'.get? b = some o) → Q none { s with heap := h' }) : wpAny (model prog w) A (pyNext (.ref it)) Q E s := by
  obtain ⟨o, ho, hc, hd⟩ := id hit
  unfold pyNext
  refine wpAny_bind (wpAny_attempt (wpAny_callSpecial?_slot (name := Str.ofString "__next__") hit.typeIs F.slot_str_iterator_next (wpAny_call_entry F.slot_str_iterator_next hit.typeIs F.entry_str_iterator_next ?_ (F.args_str_iterator_next_1 _))))
  show wpAny _ _ (field (.ref it) 0 >>= _) _ _ s; refine wpAny_bind (wpAny_field ho hd (x := .str x t) rfl ?_)
  show wpAny _ _ (field (.ref it) 1 >>= _) _ _ s; refine wpAny_bind (wpAny_field ho hd (x := .int i 0) rfl ?_)
  simp only [Int.toNat_natCast, hx]
  refine wpAny_bind (wpAny_rule (wpAny_bind (wpAny_setField ho hd (by simp) (wpAny_bind (wpAny_letGo (stop_new (x1 := x1) hh (z.keep fun o' e' => (Heap.get?_update_other _ _ (Ne.symm ne)).trans e') fun e h' kk ⟨oe, ge, ce⟩ => ?_))))))
  exact wpAny_bind (wpAny_isInstance (T := "StopIteration") (b := true) ⟨_, ge, ce⟩ isSubtype_stop (wpAny_pure (hQ _ fun b u nb e => kk b u ((Heap.get?_update_other _ _ (Ne.symm nb)).trans e))))
theorem list_endH {it l : Addr} {i : Nat} {items : Array Value} {Q : Option Value → Shared → Prop} (hh : A.handled = some (.ref x1)) (z : StN x1 s.heap) (ne : x1 ≠ it) (hit : s.heap.IsListIter it l i) (hl : s.heap.IsList l items) (hx : items[i]? = none)
    (hQ : ∀ h', (∀ b o, b ≠ it → s.heap.get? b = some o → h'.get? b = some o) → Q none { s with heap := h' }) : wpAny (model prog w) A (pyNext (.ref it)) Q E s := by
  obtain ⟨o, ho, hc, hd⟩ := id hit
  obtain ⟨ol, hol, _, nl, hdl⟩ := hl
  unfold pyNext
  refine wpAny_bind (wpAny_attempt (wpAny_callSpecial?_slot (name := Str.ofString "__next__") hit.typeIs slot_listiter_next (wpAny_call_entry slot_listiter_next hit.typeIs entry_listiter_next ?_ (args_listiter_next _))))
  show wpAny _ _ (field (.ref it) 0 >>= _) _ _ s; refine wpAny_bind (wpAny_field ho hd (x := .ref l) rfl ?_)
  show wpAny _ _ (if (Value.ref l == Value.none) = true then _ else _) _ _ s; rw [if_neg (show ¬ ((Value.ref l == Value.none) = true) from Bool.false_ne_true)]
  show wpAny _ _ (field (.ref it) 1 >>= _) _ _ s; refine wpAny_bind (wpAny_field ho hd (x := .int i 0) rfl ?_)
  show wpAny _ _ (seqItems? (.ref l) >>= _) _ _ s; refine wpAny_bind (wpAny_seqItems hol hdl ?_)
  simp only [Int.toNat_natCast, hx]
  refine wpAny_bind (wpAny_rule (wpAny_bind (wpAny_setField ho hd (by simp) (stop_new (x1 := x1) hh (z.keep fun o' e' => (Heap.get?_update_other _ _ (Ne.symm ne)).trans e') fun e h' kk ⟨oe, ge, ce⟩ => ?_))))
  exact wpAny_bind (wpAny_isInstance (T := "StopIteration") (b := true) ⟨_, ge, ce⟩ isSubtype_stop (wpAny_pure (hQ _ fun b u nb e => kk b u ((Heap.get?_update_other _ _ (Ne.symm nb)).trans e))))
/-- a text's iterator -/
theorem walk_ascii (hh : A.handled = some (.ref x1)) (I : Addr) (ne : x1 ≠ I) (x : Str) (t : Tok) : Walks prog w A I [I, x1] [I] x.cps.size (SignAt x) (fun i h => h.IsStrIter I "str_ascii_iterator" x t i ∧ StN x1 h) where
  sub := fun b hb => List.mem_cons.mpr (.inl (List.mem_singleton.mp hb))
  frame := fun _ _ _ st k => ⟨let ⟨o, ho, r⟩ := st.1; ⟨o, k I (.head _) o ho, r⟩, st.2.keep fun o e => k x1 (.tail _ (.head _)) o e⟩
  item := fun i s Q E hi st hQ => wpAny_pyNext_ascii_item st.1 (c := x.cps[i]) (by simp [hi]) fun h' hit' sb => hQ _ h' (s.toks + 1) ⟨_, _, by simp [hi], rfl⟩ ⟨hit', st.2.keep fun o e => (sb.2 x1 ne).trans e⟩ fun b o hb e => sb.extBut b o (fun h => hb (List.mem_singleton.mpr h)) e
  done := fun s Q E st hQ => ascii_endH hh st.2 ne st.1 (by simp) fun h' kk => hQ h' s.toks fun b o hb e => kk b o (fun h => hb (List.mem_singleton.mpr h)) e
  self := fun _ _ _ _ st hQ => wpAny_pyIter_striter_ascii st.1 hQ
theorem walk_wide (hh : A.handled = some (.ref x1)) (I : Addr) (ne : x1 ≠ I) (x : Str) (t : Tok) : Walks prog w A I [I, x1] [I] x.cps.size (SignAt x) (fun i h => h.IsStrIter I "str_iterator" x t i ∧ StN x1 h) where
  sub := fun b hb => List.mem_cons.mpr (.inl (List.mem_singleton.mp hb))
  frame := fun _ _ _ st k => ⟨let ⟨o, ho, r⟩ := st.1; ⟨o, k I (.head _) o ho, r⟩, st.2.keep fun o e => k x1 (.tail _ (.head _)) o e⟩
  item := fun i s Q E hi st hQ => wpAny_pyNext_wide_item st.1 (c := x.cps[i]) (by simp [hi]) fun h' hit' sb => hQ _ h' (s.toks + 1) ⟨_, _, by simp [hi], rfl⟩ ⟨hit', st.2.keep fun o e => (sb.2 x1 ne).trans e⟩ fun b o hb e => sb.extBut b o (fun h => hb (List.mem_singleton.mpr h)) e
  done := fun s Q E st hQ => wide_endH hh st.2 ne st.1 (by simp) fun h' kk => hQ h' s.toks fun b o hb e => kk b o (fun h => hb (List.mem_singleton.mpr h)) e
  self := fun _ _ _ _ st hQ => wpAny_pyIter_striter_wide st.1 hQ
theorem iter_strH {x : Str} {t : Tok} {Q : Value → Shared → Prop} (z : StN x1 s.heap)
    (hQ : ∀ (o : Obj) (St : Nat → Heap → Prop), (∀ A' : Around, A'.handled = some (.ref x1) → Walks prog w A' s.heap.objs.size [s.heap.objs.size, x1] [s.heap.objs.size] x.cps.size (SignAt x) St) → St 0 (s.heap.push o) → (∀ i h, St i h → StN x1 h) →
      Q (.ref s.heap.objs.size) { s with heap := s.heap.push o }) : wpAny (model prog w) A (pyIter (.str x t)) Q E s := by
  have ne : x1 ≠ s.heap.objs.size := let ⟨_, _, g, _⟩ := z; Nat.ne_of_lt (Heap.lt_size g)
  have z2 : ∀ o, StN x1 (s.heap.push o) := fun o => z.keep fun _ e => Heap.get?_push_of_some _ e
  cases ha : x.cps.all (· < 128) with
  | false => exact wpAny_pyIter_wide ha (hQ _ _ (fun A' hA => walk_wide hA _ ne x t) ⟨⟨_, Heap.get?_push_size _ rfl, rfl, rfl⟩, z2 _⟩ fun _ _ st => st.2)
  | true => exact wpAny_pyIter_ascii ha (hQ _ _ (fun A' hA => walk_ascii hA _ ne x t) ⟨⟨_, Heap.get?_push_size _ rfl, rfl, rfl⟩, z2 _⟩ fun _ _ st => st.2)
end
end RH

--CUT
/-! ### a generator expression while an exception is handled -/
namespace RH
open PySem PySem.Spec PyProof.Rows HotX
/-- what is asked of the element: it changes nothing that stood -/
def EltOk (prog : Program) (w : World) (cenv : Env) (x : Str) (elt : Expr) (fp wr : List Addr) (P : Nat → Value → Prop) (F : Nat → Value → Prop) (href : Heap) : Prop :=
  ∀ (A' : Around) (E' : Value → Shared → Prop) (i : Nat) (v : Value) (s2 : Shared) (m2 : Str → Option Value), P i v → s2.heap.Ns cenv.locals m2 → m2 x = some v → (∀ b ∈ fp, b ∉ wr → ∀ o, href.get? b = some o → s2.heap.get? b = some o) →
    wpAny (model prog w) A' (eval elt cenv) (fun y s3 => F i y ∧ Keeps s2 s3) E' s2
abbrev every : Nat → Bool := fun _ => true
section
variable {prog : Program} {w : World} {A : Around} {hd : Option Value} {elt iter : Expr} {x : Str} {px : Pos} {scope : Scope} {pos : Pos} {I : Addr} {fp wr : List Addr} {n0 : Nat} {P : Nat → Value → Prop} {St : Nat → Heap → Prop} {cenv : Env} {F : Nat → Value → Prop} {href : Heap}
theorem loopH (hh : A.handled = hd) (W : ∀ A' : Around, A'.handled = hd → Walks prog w A' I fp wr n0 P St) (hx : cenv.kindOf x = some .local) (hp : (cenv.scope.kind == .class || (cenv.scope.kind == .module && cenv.locals != cenv.globals)) = false)
    (hco : cenv.scope.isCoroutine = false) (nC : cenv.locals ∉ fp) (el : EltOk prog w cenv x elt fp wr P F href) :
    ∀ (k i : Nat) (s0 s : Shared) (m : Str → Option Value), n0 - i = k → i ≤ n0 → St i s.heap → s.heap.Ns cenv.locals m → GenSince cenv.locals wr s0 s → (∀ b ∈ fp, b ∉ wr → ∀ o, href.get? b = some o → s.heap.get? b = some o) →
      Seg (model prog w) A (fun n s0 r s1 => r = .ok .next ∧ (n = 0 ∧ GenSince cenv.locals wr s0 s1)) (genProto cenv.locals fp wr every n0 F) (passing every n0 i).length s0 (.compLoop (.GeneratorExp elt [⟨.Name x px, iter, [], 0⟩] scope pos) 0 (.ref I) .none cenv)
        ((model prog w).den (.compLoop (.GeneratorExp elt [⟨.Name x px, iter, [], 0⟩] scope pos) 0 (.ref I) .none cenv)) [] s := by
  have ho : (A.over (.compLoop (.GeneratorExp elt [⟨.Name x px, iter, [], 0⟩] scope pos) 0 (.ref I) .none cenv) []).handled = hd := hh
  have nw : cenv.locals ∉ wr := fun h => nC ((W A hh).sub _ h)
  intro k
  induction k with
  | zero =>
    intro i s0 s m hk hi st hn since kp
    obtain rfl : i = n0 := by omega
    show Seg _ A _ _ _ s0 _ ((compTurn (.GeneratorExp elt [⟨.Name x px, iter, [], 0⟩] scope pos) 0 (.ref I) .none cenv).onRaise (leaving cenv)) [] s
    rw [compTurn_gen, Sem.onRaise_eq_wrap]
    exact seg_bind_wrap (wpAny_standAt (seg_bind_wrap ((W _ ho).done s _ _ st fun h' tk kk => seg_end (.ok .next) ⟨rfl, by rw [passing_end]; rfl, since.step fun b o _ nb e => kk b o nb e⟩)))
  | succ k ih =>
    intro i s0 s m hk hi st hn since kp
    have lt : i < n0 := by omega
    show Seg _ A _ _ _ s0 _ ((compTurn (.GeneratorExp elt [⟨.Name x px, iter, [], 0⟩] scope pos) 0 (.ref I) .none cenv).onRaise (leaving cenv)) [] s
    rw [compTurn_gen, Sem.onRaise_eq_wrap]
    refine seg_bind_wrap (wpAny_standAt (seg_bind_wrap ((W _ ho).item i s _ _ lt st fun v h1 tk1 pv st1 k1 => seg_bind_wrap (wpAny_of_eq (rfl : letOwnedTupleGo (.Name x px) (.ref I) v = pure ()) ?_))))
    refine seg_bind_wrap (wpAny_assign_Name (wpAny_storeName_local hx (hn.at' fun o e => k1 _ o nw e) (fun h2 hn2 sb2 => ?_) hp))
    have up2 : ∀ b o, b ≠ cenv.locals → b ∉ wr → s.heap.get? b = some o → h2.get? b = some o := fun b o nb nbw e => sb2.extBut b o nb (k1 b o nbw e)
    have st2 : St (i + 1) h2 := (W A hh).frame _ _ _ st1 fun b hb o e => sb2.extBut b o (fun h => nC (h ▸ hb)) e
    have kp2 : ∀ b ∈ fp, b ∉ wr → ∀ o, href.get? b = some o → h2.get? b = some o := fun b hb nbw o e => up2 b o (fun h => nC (h ▸ hb)) nbw (kp b hb nbw o e)
    refine seg_bind_wrap ?_
    simp only [List.forIn_nil]
    refine wpAny_pure ?_
    rw [passing_true lt (show every i = true from rfl), List.length_cons]
    simp only [if_true]
    have out : ∀ v, yieldOut cenv v = yieldValue v := fun v => by simp only [yieldOut, hco, Bool.false_eq_true, if_false]
    simp only [out]
    rw [Sem.bind_eq_wrap', Sem.bind_eq_wrap', Sem.wrap_wrap, Sem.wrap_wrap]
    refine seg_wrap (wpAny_mono (el _ _ i v _ _ pv hn2 (by simp) kp2) (fun y s4 h4 => ?_) fun _ _ e => e)
    obtain ⟨fy, h5, tk5, rfl, k5⟩ := h4
    refine seg_at (seg_yield rfl rfl rfl ⟨⟨i, passing_here lt (show every i = true from rfl), fy⟩, since.step fun b o nb nbw e => k5 b o (up2 b o nb nbw e), fun s6 al => ?_⟩)
    exact seg_again rfl (ih (i + 1) s6 s6 _ (by omega) lt ((W A hh).frame _ _ _ st2 fun b hb o e => al b (.tail _ hb) o (k5 b o e)) ((hn2.keeps k5).at' fun o e => al _ (.head _) o e) (GenSince.refl _ _ _) fun b hb nbw o e => al b (.tail _ hb) o (k5 b o (kp2 b hb nbw o e)))
theorem startH (hh : A.handled = hd) (W : ∀ A' : Around, A'.handled = hd → Walks prog w A' I fp wr n0 P St) (hx : cenv.kindOf x = some .local) (hp : (cenv.scope.kind == .class || (cenv.scope.kind == .module && cenv.locals != cenv.globals)) = false)
    (hco : cenv.scope.isCoroutine = false) (nC : cenv.locals ∉ fp) (el : EltOk prog w cenv x elt fp wr P F href) (s0 s : Shared) (m : Str → Option Value) (st : St 0 s.heap) (hn : s.heap.Ns cenv.locals m) (since : GenSince cenv.locals wr s0 s)
    (kp : ∀ b ∈ fp, b ∉ wr → ∀ o, href.get? b = some o → s.heap.get? b = some o) :
    Seg (model prog w) A (fun n s0 r s1 => r = .ok .next ∧ (n = 0 ∧ GenSince cenv.locals wr s0 s1)) (genProto cenv.locals fp wr every n0 F) (passing every n0 0).length s0 (.compStart (.GeneratorExp elt [⟨.Name x px, iter, [], 0⟩] scope pos) 0 (.ref I) .none cenv)
      ((model prog w).den (.compStart (.GeneratorExp elt [⟨.Name x px, iter, [], 0⟩] scope pos) 0 (.ref I) .none cenv)) [] s := by
  have ho : (A.over (.compStart (.GeneratorExp elt [⟨.Name x px, iter, [], 0⟩] scope pos) 0 (.ref I) .none cenv) []).handled = hd := hh
  have lp := loopH (elt := elt) (iter := iter) (px := px) (scope := scope) (pos := pos) hh W hx hp hco nC el n0 0 s0 s m (Nat.sub_zero _) (Nat.zero_le _) st hn since kp
  show Seg _ A _ _ _ s0 _ ((compStart (.GeneratorExp elt [⟨.Name x px, iter, [], 0⟩] scope pos) 0 (.ref I) .none cenv).onRaise (leaving cenv)) [] s
  unfold compStart; rw [Sem.onRaise_eq_wrap]
  show Seg _ A _ _ _ s0 _ ((ask >>= _).wrap _ _ _ _) [] s
  refine seg_bind_wrap (wpAny_askSetting ?_)
  split
  · exact seg_again rfl lp
  · first
      | exact seg_bind_wrap (wpAny_rule (seg_bind_wrap (wpAny_standAt (seg_bind_wrap ((W _ ho).self 0 s _ _ st (seg_again rfl lp))))))
      | (refine seg_bind_wrap (wpAny_rule ?_); show Seg _ A _ _ _ s0 _ ((standAt iter.pos >>= _).wrap _ _ _ _) [] s; exact seg_bind_wrap (wpAny_standAt (seg_bind_wrap ((W _ ho).self 0 s _ _ st (seg_again rfl lp)))))
theorem freshH {a : Addr} {g : Nat} (hh : A.handled = hd) (W : ∀ A' : Around, A'.handled = hd → Walks prog w A' I fp wr n0 P St) (hx : cenv.kindOf x = some .local) (hp : (cenv.scope.kind == .class || (cenv.scope.kind == .module && cenv.locals != cenv.globals)) = false)
    (hco : cenv.scope.isCoroutine = false) (nC : cenv.locals ∉ fp) {s : Shared} {m : Str → Option Value} (el : EltOk prog w cenv x elt fp wr P F s.heap) (hg : s.heap.IsGen a g)
    (hgs : s.gens[g]? = some (.fresh (.compStart (.GeneratorExp elt [⟨.Name x px, iter, [], 0⟩] scope pos) 0 (.ref I) .none cenv))) (st : St 0 s.heap) (hn : s.heap.Ns cenv.locals m) (hl : s.heap.NoLimit) : GenAt prog w A a g cenv.locals fp wr every n0 F 0 s :=
  ⟨hg, hl, _, hgs, fun s2 al => ⟨rfl, startH (A := A.in1) hh W hx hp hco nC el s2 s2 m ((W A hh).frame _ _ _ st fun b hb o e => al b (.tail _ hb) o e) (hn.at' fun o e => al _ (.head _) o e) (GenSince.refl _ _ _) fun b hb _ o e => al b (.tail _ hb) o e⟩⟩
end
section
variable {prog : Program} {w : World} {A : Around} {E : Value → Shared → Prop} {s : Shared} {x1 : Addr}
theorem gen_nextH {a : Addr} {g n : Nat} {gs : GenState} {P : Nat → Shared → Shared → Prop} {Y : Protocol} {Q : Option Value → Shared → Prop} (hh : A.handled = some (.ref x1)) (hl : s.heap.NoLimit) (hroom : A.depth < recursionLimit) (hg : s.heap.IsGen a g) (hgs : s.gens[g]? = some gs)
    (hgo : gs.Goes (model prog w) A.in1 (fun n s0 r s1 => r = .ok .next ∧ P n s0 s1) Y n (.send .none) (s.setGen g .running)) (hz : ∀ s1, P n (s.setGen g .running) s1 → StN x1 s1.heap)
    (hY : ∀ v s1 gs', gs'.bare = true → Y (n - 1) (s.setGen g .running) v s1 (fun r' s2 => match n with
        | 0 => False
        | m + 1 => gs'.Goes (model prog w) A.in1 (fun n s0 r s1 => r = .ok .next ∧ P n s0 s1) Y m r' s2) → Q (some v) (s1.setGen g gs'))
    (hP : ∀ s1, P n (s.setGen g .running) s1 → ∀ h', (∀ b o, s1.heap.get? b = some o → h'.get? b = some o) → Q none { s1.setGen g .finished with heap := h' }) : wpAny (model prog w) A (pyNext (.ref a)) Q E s := by
  unfold pyNext
  refine wpAny_bind (wpAny_attempt (wpAny_callSpecial?_slot (name := Str.ofString "__next__") hg.typeIs slot_gen_next (wpAny_call_entry slot_gen_next hg.typeIs entry_gen_next ?_ (args_gen_next _))))
  show wpAny _ A.in1 (Builtin.Generator.genWake (.ref a) (.send .none)) _ _ s; unfold Builtin.Generator.genWake
  refine wpAny_bind (wpAny_holding (wpAny_genNumber hg (wpAny_bind (wpAny_genState hgs ?_))))
  cases gs with
  | running => exact hgo.elim
  | finished => exact hgo.elim
  | _ =>
    refine wpAny_bind (wpAny_roomToWake hl hroom ?_)
    show wpAny _ A.in1 (.resume g (.send .none) [] _) _ _ s
    refine wpAny_resumeQ hgs hgo (fun x s1 hx => ?_) (fun v s1 gs' hb hv => wpAny_pure ⟨v, rfl, wpAny_pure (hY v s1 gs' hb hv)⟩)
    obtain ⟨rfl, hp⟩ := hx
    show wpAny _ A.in1 (newExc (.type "StopIteration") [] >>= _) _ _ _
    refine stop_newK (s := s1.setGen g .finished) (A := A.in1) (x1 := x1) hh (hz s1 hp) fun e h' kk ⟨oe, ge, ce⟩ => ?_
    exact wpAny_bind (wpAny_isInstance (T := "StopIteration") (b := true) ⟨_, ge, ce⟩ isSubtype_stop (wpAny_pure (hP s1 hp _ kk)))
/-- the generator's walk: the handled exception stands through it -/
theorem gen_walkH (hh : A.handled = some (.ref x1)) (a : Addr) (g : Nat) (C : Addr) (fp wr : List Addr) (n0 : Nat) (F : Nat → Value → Prop) (haC : a ≠ C) (haf : a ∉ fp) (hsub : ∀ b ∈ wr, b ∈ fp) (hroom : A.depth < recursionLimit) (hcs : cStatics ∈ fp) (hcC : cStatics ≠ C) (hcw : cStatics ∉ wr)
    (x1C : x1 ≠ C) (x1w : x1 ∉ wr) (x1f : x1 ∈ fp) :
    WalksS prog w A a (a :: C :: fp) (C :: wr) (GenOnlyQ g) (passing every n0 0).length (fun j y => ∃ i, (passing every n0 0)[j]? = some i ∧ F i y) (fun j s => GenAt prog w A a g C fp wr every n0 F j s ∧ StN x1 s.heap) where
  sub := fun b hb => (List.mem_cons.mp hb).elim (fun e => by rw [e]; simp) fun h => .tail _ (.tail _ (hsub b h))
  grefl := fun _ => .inl rfl
  gtrans := fun _ _ _ x y => x.trans y
  frame := fun j s h' tk ⟨st, z⟩ _ hk => ⟨⟨let ⟨o, nm, qn, ho, r⟩ := st.1; ⟨o, nm, qn, hk a (.head _) o ho, r⟩, (let ⟨mc, hns, hnn⟩ := st.2.1; ⟨mc, hns.at' fun o e => hk cStatics (.tail _ (.tail _ hcs)) o e, hnn⟩),
     let ⟨gs, hgs, hgo⟩ := st.2.2; ⟨gs, hgs, fun s2 al => hgo s2 fun b hb o e => al b hb o (hk b (.tail _ hb) o e)⟩⟩, z.keep fun o e => hk x1 (.tail _ (.tail _ x1f)) o e⟩
  item := fun j s Q E hj ⟨⟨hg, hl, gs, hgs, hgo⟩, z⟩ hQ => by
    obtain ⟨m, hm⟩ : ∃ m, (passing every n0 0).length - j = m + 1 := ⟨(passing every n0 0).length - j - 1, by omega⟩
    rw [hm] at hgo
    refine wpAny_with_toks (Nat.le_refl s.toks) (gen_nextH (P := fun n s0 s1 => n = 0 ∧ GenSince C wr s0 s1) hh hl hroom hg hgs (hgo _ fun _ _ _ e => e) (fun s1 hp => absurd hp.1 (Nat.succ_ne_zero m)) (fun v s1 gs' hb hv => ?_) fun s1 hp h' hk => absurd hp.1 (Nat.succ_ne_zero m))
    obtain ⟨⟨i, hi, hF⟩, ⟨h1, tk1, rfl, k1⟩, kap⟩ := hv
    rw [show (passing every n0 0).length - 1 - (m + 1 - 1) = j by omega] at hi
    intro htk
    refine hQ v _ ⟨i, hi, hF⟩ ⟨⟨let ⟨o, nm, qn, ho, r⟩ := hg; ⟨o, nm, qn, k1 a o haC (fun h => haf (hsub a h)) ho, r⟩, (let ⟨mc, hns, hnn⟩ := hl; ⟨mc, hns.at' fun o e => k1 cStatics o hcC hcw e, hnn⟩), gs', setGen_self (gs := .running) (setGen_self hgs), fun s2 al => ?_⟩, z.keep fun o e => k1 x1 o x1C x1w e⟩
      ⟨fun b o hb e => k1 b o (fun h => hb (h ▸ .head _)) (fun h => hb (.tail _ h)) e, GenOnlyQ.of ((GenOnly.setGen s g .running).trans (GenOnly.setGen _ g gs')) (setGen_self (gs := .running) (setGen_self hgs)) hb, rfl, rfl, htk⟩
    rw [show (passing every n0 0).length - (j + 1) = m by omega]
    exact kap s2 al
  done := fun s Q E ⟨⟨hg, hl, gs, hgs, hgo⟩, z⟩ hQ => by
    rw [Nat.sub_self] at hgo
    refine wpAny_with_toks (Nat.le_refl s.toks) (gen_nextH (P := fun n s0 s1 => n = 0 ∧ GenSince C wr s0 s1) hh hl hroom hg hgs (hgo _ fun _ _ _ e => e) (fun s1 hp => ?_) (fun v s1 gs' hb hv => ?_) (fun s1 hp h' hk => ?_))
    · obtain ⟨_, h1, tk1, rfl, k1⟩ := hp
      exact z.keep fun o e => k1 x1 o x1C x1w e
    · obtain ⟨_, _, kap⟩ := hv
      exact (kap s1 fun _ _ _ e => e).elim
    · obtain ⟨_, h1, tk1, rfl, k1⟩ := hp
      intro htk
      exact hQ _ ⟨fun b o hb e => hk b o (k1 b o (fun h => hb (h ▸ .head _)) (fun h => hb (.tail _ h)) e), GenOnlyQ.of ((GenOnly.setGen s g .running).trans (GenOnly.setGen _ g .finished)) (setGen_self (gs := .running) (setGen_self hgs)) rfl, rfl, rfl, htk⟩
  self := fun _ _ _ _ st hQ => wpAny_pyIter_gen st.1.1 hQ
/-- (elt for x in iter) made -/
theorem gen_makeH {env : Env} {elt iter : Expr} {x : Str} {px : Pos} {scope : Scope} {cl : List (Str × Addr)} {pos : Pos} {Q : Value → Shared → Prop} (hh : A.handled = some (.ref x1)) (hco : scope.isCoroutine = false) (hclos : closureFor scope env = pure cl) (hcell : ∀ y ∈ scope.names, y.2 ≠ .cell)
    (h0 : scope.names.lookup (".0" : Str) = some NameKind.local) (hx : scope.names.lookup x = some .local) (hkind : scope.kind = .function) (hroom : A.depth < recursionLimit)
    (h : wpAny (model prog w) A (eval iter env) (fun xv s1 => wpAny (model prog w) A (pyIter xv) (fun it s2 => s2.heap.NoLimit ∧ wpAny (model prog w) A (genexprCode env pos (env.qual ++ "<genexpr>") scope) (fun code s3 => wpAny (model prog w) A (builtinsFor env.globals env.builtins) (fun bi s4 =>
        ∃ I fp wr n0 P St F, it = .ref I ∧ (∀ A' : Around, A'.handled = some (.ref x1) → Walks prog w A' I fp wr n0 P St) ∧ St 0 s4.heap ∧ (∀ b ∈ fp, b < s4.heap.objs.size) ∧ s4.heap.NoLimit ∧ cStatics ∉ wr ∧ StN x1 s4.heap ∧ x1 ∉ wr ∧
          (∀ href : Heap, (∀ b o, s4.heap.get? b = some o → href.get? b = some o) → EltOk prog w (genEnv scope cl s4.heap.objs.size code bi env) x elt (List.range s4.heap.objs.size) wr P F href) ∧
          (∀ a h5 tk gs, gs.bare = true → s4.heap.objs.size < a → h5.objs.size = a + 1 → (∀ b o, s4.heap.get? b = some o → h5.get? b = some o) →
            WalksS prog w A.in4 a (a :: s4.heap.objs.size :: List.range s4.heap.objs.size) (s4.heap.objs.size :: wr) (GenOnlyQ s4.gens.size) (passing every n0 0).length (fun j y => ∃ i, (passing every n0 0)[j]? = some i ∧ F i y)
              (fun j s => GenAt prog w A.in4 a s4.gens.size s4.heap.objs.size (List.range s4.heap.objs.size) wr every n0 F j s ∧ StN x1 s.heap) →
            (GenAt prog w A.in4 a s4.gens.size s4.heap.objs.size (List.range s4.heap.objs.size) wr every n0 F 0 { s4 with gens := s4.gens.push gs, toks := tk, heap := h5 } ∧ StN x1 h5) → Q (.ref a) { s4 with gens := s4.gens.push gs, toks := tk, heap := h5 })) E s3) E s2) E s1) E s)
    (hs : ∀ x, genFold iter env x = pure x) : wpAny (model prog w) A (eval (.GeneratorExp elt [⟨.Name x px, iter, [], 0⟩] scope pos) env) Q E s := by
  refine wpAny_GeneratorExp_make hco hclos hcell h0 hkind hroom (wpAny_mono h (fun xv s1 h1 => wpAny_mono h1 (fun it s2 h2 => ⟨h2.1, wpAny_mono h2.2 (fun code s3 h3 => wpAny_mono h3 (fun bi s4 h4 => ?_) fun _ _ e => e) fun _ _ e => e⟩) fun _ _ e => e) fun _ _ e => e) hs
  obtain ⟨I, fp, wr, n0, P, St, F, rfl, W, st, hfp, hl4, hcw, z4, x1w, el, hQ⟩ := h4
  have clt : cStatics < s4.heap.objs.size := let ⟨_, hn, _⟩ := hl4; hn.lt
  have x1lt : x1 < s4.heap.objs.size := let ⟨_, _, g, _⟩ := z4; Heap.lt_size g
  intro h' hn' sb
  have sz : h'.objs.size = s4.heap.objs.size + 1 := by rw [sb.1, Heap.size_push]
  have kp : ∀ b o, s4.heap.get? b = some o → h'.get? b = some o := fun b o e => sb.extBut b o (Nat.ne_of_lt (Heap.lt_size e)) (Heap.get?_push_of_some _ e)
  have kp5 : ∀ b o, s4.heap.get? b = some o → (h'.push { cls := .type "generator", data := .fields #[.int s4.gens.size 0, .str "<genexpr>" (s4.toks + 1), .str (env.qual ++ "<genexpr>") (s4.toks + 1 + 1)] }).get? b = some o := fun b o e => Heap.get?_push_of_some _ (kp b o e)
  have z5 := z4.keep fun o e => kp5 x1 o e
  refine hQ _ _ _ _ rfl (by omega) (by rw [Heap.size_push]) kp5 (gen_walkH (A := A.in4) hh _ _ _ _ wr n0 F (by rw [sz]; exact Nat.succ_ne_self _) (fun hm => by have := List.mem_range.mp hm; omega) (fun b hb => List.mem_range.mpr (hfp b ((W A hh).sub b hb))) hroom (List.mem_range.mpr clt) (Nat.ne_of_lt clt) hcw
    (Nat.ne_of_lt x1lt) x1w (List.mem_range.mpr x1lt)) ⟨?_, z5⟩
  exact freshH (A := A.in4) (cenv := genEnv scope cl s4.heap.objs.size code bi env) (m := fun y => if y = ".0" then some (.ref I) else none) hh (fun A' hA => (W A' hA).mono_fp fun b hb => List.mem_range.mpr (hfp b hb)) hx (by simp [genEnv, hkind]) hco
    (fun hm => Nat.lt_irrefl _ (List.mem_range.mp hm)) (el _ kp5) ⟨_, _, _, Heap.get?_push_size _ rfl, rfl, rfl, rfl⟩ (Array.getElem?_push_size ..) ((W A hh).frame _ _ _ st fun b _ o e => kp5 b o e) (hn'.push _) (hl4.keeps kp5)
end
end RH

/-! ### all(test for x in text) while an exception is handled -/
namespace RH
open PySem PySem.Spec PyProof.Rows L2 _root_.RG
section
variable {X : Cx} {pins : List (Addr × Obj)} {σ : L2.St} {H : Hp} {s : Shared} {c P : Addr} {scope : Scope} {x : Str} {elt : Expr} {pb : Nat → Bool}
theorem pe_allH {iter : Expr} {px p pos gp : Pos} {te : TE} {k : Nat} (hr : L2H.RoomH k X.A) (hot : L2H.HotC X) (gA : Gl X "all") (mA : X.mg "all" = none) (TB : GxR.TabB X.base X.mg c P) (hc : X.env.code = .ref c) (S : GxR.GenS X.env scope x) (hi : PE X iter te) (hel : Elt X.prog X.w X.mg scope x elt pb)
    (hs : ∀ v, genFold iter X.env v = pure v)
    (he : starEach [.GeneratorExp elt [⟨.Name x px, iter, [], 0⟩] scope gp] X.env = [(false, eval (.GeneratorExp elt [⟨.Name x px, iter, [], 0⟩] scope gp) X.env)] := by rfl) :
    PE X (.Call (.Name "all" p) [.GeneratorExp elt [⟨.Name x px, iter, [], 0⟩] scope gp] [] pos) (GxR.tAllS P pb te) := by
  constructor
  intro pins s σ H Q I h
  obtain ⟨z, ⟨hh, v1, e1, c1⟩, hz⟩ := hot
  have bA : bootBuiltins "all" = some (.builtin "all") := PyProof.Rows.boot_all
  refine wpAny_Call_Name_kw (ld_blt I gA mA bA (PyProof.Rows.callWith_builtin1 ?_ he (by rfl)))
  rw [he]
  refine Calls.spliced_cons ?_
  refine RH.gen_makeH (x1 := z.1) hh S.co (closure_ok S.free) S.cell S.dot S.loc S.kind (by have := hr.dp; omega) (thn (hi.run pins s σ H _ I h) ?_) hs
  rintro xv sa ⟨v, Ha, Ia, rv, a, rfl, ⟨ps, tP, ok⟩, q⟩
  obtain ⟨ta, rfl⟩ := rv
  have PZ := Ia.pin z (List.mem_append_left _ hz)
  have za : RH.StN z.1 sa.heap := ⟨z.2, v1, PZ.1, e1, c1⟩
  have zP : z.1 ≠ P := fun e => by
    have n := PZ.2.1
    rw [e, tP] at n
    cases n
  have zlt : z.1 < sa.heap.objs.size := Heap.lt_size PZ.1
  refine RH.iter_strH za ?_
  intro io St W st0 stz
  have gP : sa.heap.get? P = some (PySem.W.tabObj ps) := Ia.hok P _ tP
  have up : ∀ b u, sa.heap.get? b = some u → (sa.heap.push io).get? b = some u := fun b u e => Heap.get?_push_of_some _ e
  have nl : (sa.heap.push io).NoLimit := Ia.nolimit.push io
  have szp : (sa.heap.push io).objs.size = sa.heap.objs.size + 1 := Heap.size_push ..
  refine ⟨nl, code_of hc (TB.code.keeps fun b u e => up b u (Ia.bk b u e)) (up _ _ gP) ok ?_⟩
  intro cd h3 tk more ext ge gP3 ok3
  have ge2 : sa.heap.objs.size + 1 ≤ h3.objs.size := by
    rw [← szp]
    exact ge
  have kp : ∀ b u, b ≠ P → sa.heap.get? b = some u → h3.get? b = some u := fun b u n e => ext b u n (up b u e)
  have PltA : P < sa.heap.objs.size := Heap.lt_size gP
  have nsG : h3.Ns mainGlobals X.mg := ((Ia.mod.glob.keeps Ia.bk).push io).extBut ext TB.gP
  have csP : cStatics ≠ P := by
    intro e
    obtain ⟨_, ⟨o', _, _, ho, hdd, _⟩, _⟩ := Ia.nolimit
    rw [e, gP] at ho
    cases ho
    cases hdd
  have csA : cStatics < sa.heap.objs.size := let ⟨_, hns, _⟩ := Ia.nolimit; hns.lt
  have itP : sa.heap.objs.size ≠ P := fun e => absurd PltA (by rw [e]; exact Nat.lt_irrefl _)
  obtain ⟨bm, ob, b1, b2, b3, b4, b5, b6, b7, b8⟩ := TB.bm
  refine wpAny_builtinsFor (m := X.mg) (by rw [Ia.ok.glob]; exact nsG) b1 b2 (kp _ _ b4 (Ia.bk _ _ b5)) b6 b7 b8 ?_
  refine ⟨sa.heap.objs.size, [sa.heap.objs.size, z.1], [sa.heap.objs.size], a.cps.size, SignAt a, St, fun j y => ∃ k, a.cps[j]? = some k ∧ y = .bool (pb k), rfl, W, ?_, ?_, nl.extBut ext csP, ?_, ?_, ?_, ?_, ?_⟩
  · refine (W X.A hh).frame _ _ _ st0 fun b hb u e => ext b u ?_ e
    rcases List.mem_cons.mp hb with w | w
    · rw [w]; exact itP
    · rw [List.mem_singleton.mp w]; exact zP
  · intro b hb
    rcases List.mem_cons.mp hb with w | w
    · rw [w]; exact ge2
    · rw [List.mem_singleton.mp w]; exact Nat.lt_of_lt_of_le zlt (Nat.le_of_succ_le ge2)
  · intro hm
    exact Nat.ne_of_lt csA (List.mem_singleton.mp hm)
  · exact za.keep fun o e => kp _ _ zP e
  · intro hm
    exact Nat.ne_of_lt zlt (List.mem_singleton.mp hm)
  · intro hh kh A' E' j v s2 m2 ⟨k, u, hk, ev⟩ hn hm keep
    subst ev
    have G2 : s2.heap.Ns mainGlobals X.mg := by
      obtain ⟨og, es, ep, hog, r⟩ := nsG
      refine ⟨og, es, ep, keep _ (in_range hog) ?_ _ (kh _ _ hog), r⟩
      intro hm2
      have e2 := List.mem_singleton.mp hm2
      obtain ⟨o9, _, _, h9, _⟩ := Ia.mod.glob.keeps Ia.bk
      have := Heap.lt_size h9
      rw [e2] at this
      exact Nat.lt_irrefl _ this
    refine wpAny_mono (hel _ A' E' k u s2 m2 rfl Ia.ok.glob G2 hn hm) ?_ fun _ _ z => z
    rintro y s3 ⟨e, kk⟩
    exact ⟨⟨k, hk, e⟩, kk⟩
  · intro g h5 t5 gs bare _ _ k5 W5 hat
    rw [GxR.passing_true] at W5
    simp only [List.length_range] at W5
    refine Calls.spliced_nil (call_all_walkS (W5.in4_1.self 0 _ _ _ hat ⟨g, _, _, _, _, _, _, GxR.trF pb a.cps.toList, rfl, W5.in4_1, hat, ?_, ?_⟩))
    · rintro j y sj Qj Ej ⟨i, hij, k, hk, rfl⟩ hq
      obtain ⟨hj, ej⟩ := List.getElem?_eq_some_iff.mp hij
      rw [List.getElem_range] at ej
      subst ej
      rw [GxR.trF_some (b := k) (by rw [Array.getElem?_toList]; exact hk)] at hq
      exact wpAny_truthy_bool hq
    · intro s' mv
      have away : ∀ b u, sa.heap.get? b = some u → b ∉ [h3.objs.size, sa.heap.objs.size] := by
        intro b u e hm
        have l := Heap.lt_size e
        rcases List.mem_cons.mp hm with w | w
        · rw [w] at l
          exact absurd (Nat.lt_of_lt_of_le l (Nat.le_of_succ_le ge2)) (Nat.lt_irrefl _)
        · rw [List.mem_singleton.mp w] at l
          exact Nat.lt_irrefl _ l
      have J := GxR.inv_tab (more := more) (h' := s'.heap) (g' := s'.gens) (d' := s'.drawn) (t' := s'.toks) Ia tP (fun b u n e => mv.heap b u (away b u e) (k5 b u (kp b u n e))) (mv.heap P _ (away P _ gP) (k5 P _ gP3)) (AllBare.movedS (Ia.bare.push bare) mv)
      rw [GxR.sh_eta sa s' mv.os] at J
      refine ⟨.bl _, _, J, rfl, ?_⟩
      rw [GxR.all_signs a pb]
      exact q _ ⟨⟨_, upd_same, ok3⟩, fun b n => upd_ne n⟩
end
end RH

/-! ### a tuple unpacked while an exception is handled -/
namespace RH
open PySem PySem.Spec PyProof.Rows HotX
section
variable {prog : Program} {w : World} {A : Around} {E : Value → Shared → Prop} {s : Shared} {x1 : Addr}
theorem tup_endH {it t : Addr} {i : Nat} {items : Array Value} {Q : Option Value → Shared → Prop} (hh : A.handled = some (.ref x1)) (z : StN x1 s.heap) (ne : x1 ≠ it) (hit : IsTupIter s.heap it t i) (ht : IsTup s.heap t items) (hx : items[i]? = none)
    (hQ : ∀ h', (∀ b o, b ≠ it → s.heap.get? b = some o → h'.get? b = some o) → Q none { s with heap := h' }) : wpAny (model prog w) A (pyNext (.ref it)) Q E s := by
  obtain ⟨o, ho, hc, hd⟩ := id hit
  obtain ⟨ol, hol, _, nl, hdl⟩ := ht
  unfold pyNext
  refine wpAny_bind (wpAny_attempt (wpAny_callSpecial?_slot (name := Str.ofString "__next__") hit.typeIs slot_tupleiter_next (wpAny_call_entry slot_tupleiter_next hit.typeIs entry_tupleiter_next ?_ (args_tupleiter_next _))))
  show wpAny _ _ (field (.ref it) 0 >>= _) _ _ s; refine wpAny_bind (wpAny_field ho hd (x := .ref t) rfl ?_)
  show wpAny _ _ (if (Value.ref t == Value.none) = true then _ else _) _ _ s; rw [if_neg (show ¬ ((Value.ref t == Value.none) = true) from Bool.false_ne_true)]
  show wpAny _ _ (field (.ref it) 1 >>= _) _ _ s; refine wpAny_bind (wpAny_field ho hd (x := .int i 0) rfl ?_)
  show wpAny _ _ (seqItems? (.ref t) >>= _) _ _ s; refine wpAny_bind (wpAny_seqItems hol hdl ?_)
  simp only [Int.toNat_natCast, hx]
  refine wpAny_bind (wpAny_rule (wpAny_bind (wpAny_setField ho hd (by simp) (stop_new (x1 := x1) hh (z.keep fun o' e' => (Heap.get?_update_other _ _ (Ne.symm ne)).trans e') fun e h' kk ⟨oe, ge, ce⟩ => ?_))))
  exact wpAny_bind (wpAny_isInstance (T := "StopIteration") (b := true) ⟨_, ge, ce⟩ isSubtype_stop (wpAny_pure (hQ _ fun b u nb e => kk b u ((Heap.get?_update_other _ _ (Ne.symm nb)).trans e))))
theorem unpackH {t : Addr} {items : Array Value} {targets : List (Bool × (Value → Sem Unit))} {Q : Unit → Shared → Prop} (hh : A.handled = some (.ref x1)) (z : StN x1 s.heap) (ht : IsTup s.heap t items) (hn : targets.length = items.size) (hstar : targets.findIdx? (·.1) = none)
    (h : ∀ h', (∀ b o, s.heap.get? b = some o → h'.get? b = some o) → wpAny (model prog w) A (assignInOrder (targets.map (·.2)) items.toList) Q E { s with heap := h' }) : wpAny (model prog w) A (unpack (.ref t) targets) Q E s := by
  have lt : t ≠ s.heap.objs.size := let ⟨_, ho, _⟩ := ht; Nat.ne_of_lt (Heap.lt_size ho)
  have lx : x1 ≠ s.heap.objs.size := let ⟨_, _, g, _⟩ := z; Nat.ne_of_lt (Heap.lt_size g)
  unfold unpack
  rw [hn, hstar]
  refine wpAny_bind (wpAny_holding ?_)
  unfold unpackItems
  refine wpAny_bind ?_
  unfold notIterableAtAll
  refine wpAny_bind (wpAny_specialOf ht.typeIs slot_tuple_iter.lookup (wpAny_pure ?_))
  simp only [Bool.false_eq_true, if_false]
  refine wpAny_bind (wpAny_holding (iter_tuple ht (wpAny_bind (wpAny_holding (draw_tuple lt items.size 0 _ _ ⟨_, Heap.get?_push_size _ rfl, rfl, rfl⟩ (ht.push _) (by omega) fun h1 it1 sb1 => ?_)))))
  rw [show List.take items.size (List.drop 0 items.toList) = items.toList by rw [List.drop_zero]; exact List.take_of_length_le (by simp), if_neg (by simp)]
  refine wpAny_bind (wpAny_holding (tup_endH (x1 := x1) hh (z.keep fun o e => (sb1.2 x1 lx).trans (Heap.get?_push_of_some _ e)) lx it1 ((ht.push _).extBut sb1.extBut lt) (by simp) fun h2 kk => ?_))
  simp only [Option.isSome_none, Bool.false_eq_true, if_false]
  exact wpAny_pure (h h2 fun b o e => kk b o (Nat.ne_of_lt (Heap.lt_size e)) (sb1.extBut b o (Nat.ne_of_lt (Heap.lt_size e)) (Heap.get?_push_of_some _ e)))
end
end RH
namespace RH
open PySem PySem.Spec PyProof.Rows L2
theorem pg_tupH {X : Cx} {es : List Expr} {k : Nat} {t : TGs} {n : Nat} {pos : Pos} (hot : L2H.HotC X) (h : PGs X es t) (hn : (assignEach es X.env).length = n := by rfl) (hst : (assignEach es X.env).findIdx? (·.1) = none := by rfl) : PG X (.Tuple es k pos) (gTup X.K n t) := ⟨fun pins s σ H v u Q I r hw => by
  obtain ⟨z, ⟨hh, v1, e1, c1⟩, hz⟩ := hot
  obtain ⟨a, xs, ev, hq, hl, hw⟩ := hw
  subst ev
  cases r
  obtain ⟨its, rv, ht, _⟩ := I.tuple hq
  rw [assign_Tuple]
  exact wpAny_bind (wpAny_standAt (unpackH (x1 := z.1) hh ⟨z.2, v1, (I.pin z (List.mem_append_left _ hz)).1, e1, c1⟩ ht (by simp [hn, ← hl, rv.length]) hst fun h' kk => h.run pins _ σ H xs _ Q (I.kept (t' := s.toks) kk) (by simpa using rv) hw))⟩
end RH

--CUT
/-! ### a comprehension over a list, out of which an exception may come -/
namespace RY
open PySem PySem.Spec PyProof.Rows L2
def HasC (C : Obj → Prop) (u : Value) (s' : Shared) : Prop := ∃ a oe, u = .ref a ∧ s'.heap.get? a = some oe ∧ C oe
def AirC (C : Obj → Prop) (X : Cx) (W : WX) (u : Value) (s' : Shared) : Prop := L2.XE X W u s' ∧ HasC C u s'
def TkC (C : Obj → Prop) (X : Cx) (W : WX) : Prop := ∀ u s', AirC C X W u s' → X.xe u s'
def CXC (C : Obj → Prop) (P : Program) (w : World) : CXT := fun outer H s E u s' => L2.CX P w outer H s E u s' ∧ HasC C u s'
theorem cxc_of {P : Program} {w : World} {outer : List Env} {H : Hp} {s s' : Shared} {E : XK} {u : Value} (c : L2N.CX P w outer H s E u s') : CXC PXN.CtxN P w outer H s E u s' := by
  obtain ⟨a, B, H', cls, d, rfl, fl, r⟩ := c
  obtain ⟨f1, f2, f3, t⟩ := fl
  have t' := t
  obtain ⟨oe, _, _, _, _, he, hz, _⟩ := t'
  exact ⟨⟨a, B, H', cls, d, rfl, ⟨f1, f2, f3, traced_more (fun _ _ z => ⟨z.1, z.2.1⟩) t⟩, r⟩, a, oe, rfl, he, hz.2.2⟩
theorem tkc_of {X : Cx} {W : WX} (tk : L2N.Takes X W) : TkC PXN.CtxN X W := by
  rintro u s' ⟨⟨a, B, sI, pins, σ, H, cls, d, rfl, I, nb, up, sky, r⟩, a', ob, ea, hob, cob⟩
  cases ea
  exact tk _ _ ⟨a, B, sI, pins, σ, H, cls, d, rfl, I, nb, up, sky_more (fun oe he z => ⟨z.1, z.2, by rw [hob] at he; cases he; exact cob⟩) sky, r⟩
theorem sky_less {B B2 h : Heap} {l : List Env} {a L : Addr} {Z : Obj → Prop} (k : ∀ b o, B2.get? b = some o → B.get? b = some o) (x : Sky B l a Z L h) : Sky B2 l a Z L h := by
  have non : ∀ {b}, B.get? b = none → B2.get? b = none := fun {b} e => by
    cases q : B2.get? b with
    | none => rfl
    | some o => rw [k b o q] at e; cases e
  have ff : h.FunFrames B l → h.FunFrames B2 l := fun f => funFrames_none f fun L hL => non (f.mem hL).1
  have tr : ∀ {fl}, HandSPX.TracedZ h B a Z fl → HandSPX.TracedZ h B2 a Z fl := fun ⟨oe, vs, T, oT, ts, he, hz, hd, h1, nT, r⟩ => ⟨oe, vs, T, oT, ts, he, hz, hd, h1, non nT, r⟩
  rcases x with ⟨a1, a2, a3, r⟩ | ⟨a1, a2, a3, t⟩ | ⟨a1, a2, a3, t⟩
  · exact .inl ⟨fun b o e => a1 b o (k b o e), non a2, ff a3, r⟩
  · exact .inr (.inl ⟨fun b o e => a1 b o (k b o e), non a2, ff a3, tr t⟩)
  · exact .inr (.inr ⟨fun b o e => a1 b o (k b o e), non a2, ff a3, tr t⟩)
section
variable {M : Model} {A : Around} {E : Value → Shared → Prop} {B : Heap} {l : List Env} {a L : Addr} {Z : Obj → Prop} {cenv : Env} {s' : Shared} {m : Str → Option Value}
/-- the block of the names is let go, the exception goes on -/
theorem failsZ (hf : cenv.frame = some L) (nB : B.get? cenv.locals = none) (hn : s'.heap.Ns cenv.locals m) (hh : HandSPX.HeldZ B l a Z L s'.heap)
    (hQ : ∀ h', HandSPX.HeldZ B l a Z L h' → (∀ b o, s'.heap.get? b = some o → b ≠ cenv.locals → (∀ vs, o.data ≠ .fields vs) → ∃ sl, h'.get? b = some { o with slots := sl }) → E (.ref a) { s' with heap := h' }) : CompFails M A E cenv (.ref a) s' := by
  refine ⟨m, hn, fun h2 m2 hn2 sb => ?_⟩
  obtain ⟨b1, b0, f1, oe, vs, T, oT, ts, he, hz, hd, h1, nT, Ta, gT, dT, h3⟩ := hh
  have noC : ∀ {b : Addr} {o : Obj} {us : Array Value}, s'.heap.get? b = some o → o.data = .fields us → b ≠ cenv.locals := fun {b o us} e d w => by
    obtain ⟨o2, es, ep, g2, d2, _⟩ := hn
    rw [w, g2] at e
    cases e
    rw [d2] at d
    cases d
  have he2 := (sb.2 a (noC he hd)).trans he
  have t2 : HandSPX.TracedZ h2 B a Z (rawInt L) := ⟨oe, vs, T, oT, ts, he2, hz, hd, h1, nT, Ta, (sb.2 T (noC gT dT)).trans gT, dT, h3⟩
  unfold PySem.passOn
  refine wpAny_bind (wpAny_field he2 hd h1 ?_)
  rw [if_neg (show ¬ ((Value.ref T == Value.none) = true) from by simp)]
  rw [hf]
  refine wpAny_bind (HandSPX.setFlight_anyZ (fun b o hb => (sb.2 b fun q => by rw [q, nB] at hb; cases hb).trans (b1 b o hb)) (Heap.FunFrames.sameBut sb hn2 f1) t2 fun h4 q1 q2 q3 q4 => wpAny_throw (hQ h4 ⟨q1, b0, q2, q3⟩ fun b o e nb nf => q4 b o ((sb.2 b nb).trans e) nf))
end
section
variable {X : Cx} {pins : List (Addr × Obj)} {σ : L2.St} {H : Hp} {s s' : Shared} {W : WX} {u : Value} {C : Obj → Prop} {cenv : Env} {m : Str → Option Value}
/-- out of the element's call into the def's own frame -/
theorem out_of (sC : PXN.Steady1 C) (hs : X.stack = X.env :: X.outer) (hf : X.env.frame = some X.env.locals) (tk : TkC C X W) (hcf : cenv.frame = X.env.frame) (I : Inv X pins σ H s) (hn : s.heap.Ns cenv.locals m) (f : FpOk X pins H cenv.locals)
    (c : CXC C X.prog X.w X.stack H s (WE W σ) u s') : notedBy (model X.prog X.w) X.A cenv (CompFails (model X.prog X.w) X.A X.xe cenv) u s' := by
  obtain ⟨⟨a, B, H', cls, d, rfl, fl, hok, ub, na, os, ag, hE⟩, a', ob, ea, hob, cob⟩ := c
  cases ea
  obtain ⟨f0, f1, f2, f3, f4, f5⟩ := f
  have ncl : cenv.locals ∉ frs X.stack := fun hm => (List.mem_cons.mp (I.stkSub _ hm)).elim f1 f2
  obtain ⟨oc, es, ep, gc, rest⟩ := hn
  have gB0 := ub.keep _ _ gc f0 ncl
  have hn' : s'.heap.Ns cenv.locals m := ⟨oc, es, ep, fl.1 _ _ gB0, rest⟩
  have f0' : H' cenv.locals = none := ub.free _ _ gc f0
  -- the state without the block's names and without the exception
  obtain ⟨G, g1, g2⟩ := restrict s'.heap fun b => ((B.get? b).isSome && decide (b ≠ cenv.locals)) || decide (b ∈ frs X.stack)
  have inG : ∀ b o, B.get? b = some o → b ≠ cenv.locals → G.get? b = some o := fun b o e n => (g1 b (by simp [e, n])).trans (fl.1 b o e)
  have frG : ∀ b, b ∈ frs X.stack → G.get? b = s'.heap.get? b := fun b hb => g1 b (by simp [hb])
  have ofG : ∀ b o, G.get? b = some o → s'.heap.get? b = some o ∧ (((B.get? b).isSome = true ∧ b ≠ cenv.locals) ∨ b ∈ frs X.stack) := fun b o e => by
    cases q : (((B.get? b).isSome && decide (b ≠ cenv.locals)) || decide (b ∈ frs X.stack)) with
    | false => rw [g2 b q] at e; cases e
    | true => exact ⟨(g1 b q).symm.trans e, by simpa [Bool.or_eq_true, Bool.and_eq_true] using q⟩
  have hokG : HOk X.prog X.w H' G := fun b o q => (hok b o q).stay (fun c u hc r => inG c u r fun w => by
    rcases hc with hc | hc
    · rw [← hc, w, f0'] at q; cases q
    · rw [w, f0'] at hc; cases hc) (fun _ r => r) fun _ _ r => r
  have J : Inv X pins σ H' { s with heap := G, gens := s'.gens, drawn := s'.drawn, toks := s'.toks } := I.call' (ch := [cenv.locals]) rfl
    ⟨fun b o e n hb nc => inG b o (ub.keep b o e n hb) fun w => nc (List.mem_singleton.mpr w), fun b o e n hb _ => (by obtain ⟨sl, q⟩ := ub.slot b o e hb; exact ⟨sl, (frG b hb).trans q⟩), fun b o e n _ => ub.free b o e n, fun b o e nc => (by
      by_cases hb : b ∈ frs X.stack
      · obtain ⟨sl, q⟩ := ub.slot b o e hb
        exact ⟨_, (frG b hb).trans q⟩
      · obtain ⟨o2, q⟩ := ub.there b o e hb
        exact ⟨o2, inG b o2 q fun w => nc (List.mem_singleton.mpr w)⟩), ub.tups, ub.frzs, ub.tbls⟩ hokG ag fun b hb => by
      cases List.mem_singleton.mp hb
      exact ⟨f3, f1, f4, f5⟩
  have B2k : ∀ b o, (PySem.W.hideAll B [cenv.locals]).get? b = some o → B.get? b = some o := fun b o e => PySem.W.of_hideAll _ e
  have B2n : (PySem.W.hideAll B [cenv.locals]).get? cenv.locals = none := PySem.W.hideAll_none _ (List.mem_singleton.mpr rfl)
  have sky : Sky (PySem.W.hideAll B [cenv.locals]) (X.env :: X.outer) a (fun o => Zc cls d o ∧ C o) X.env.locals s'.heap := by
    rw [← hs]
    exact sky_less B2k (sky_more (fun oe he z => ⟨z, by rw [hob] at he; cases he; exact cob⟩) (.inr (.inl fl)))
  have sZ : PXN.Steady1 (fun o => Zc cls d o ∧ C o) := fun o v h => ⟨⟨PXN.steady_cls o v h.1.1, PXN.steady_dict o v h.1.2⟩, sC o v h.2⟩
  have frs2 : X.A.frames = some (X.env :: X.outer) := I.ok.frames.trans (congrArg some hs)
  have done : ∀ h1, HandSPX.HeldZ (PySem.W.hideAll B [cenv.locals]) (X.env :: X.outer) a (fun o => Zc cls d o ∧ C o) X.env.locals h1 → s'.heap.UpToSlots h1 → CompFails (model X.prog X.w) X.A X.xe cenv (.ref a) { s' with heap := h1 } := fun h1 held up => by
    have hn1 : h1.Ns cenv.locals m := by
      obtain ⟨o1, es1, ep1, q1, d1, r1⟩ := hn'
      obtain ⟨sl, q2⟩ := up _ _ q1 (fun vs w => by rw [d1] at w; cases w)
      exact ⟨_, es1, ep1, q2, d1, r1⟩
    refine failsZ (hcf.trans hf) B2n hn1 held fun h2 held2 up2 => tk _ _ ⟨⟨a, PySem.W.hideAll B [cenv.locals], _, pins, σ, H', cls, d, rfl, J, fun b o e nb => ?_, fun b o e nf => ?_, .inr (.inr ?_), na, os, ag, hE⟩, ?_⟩
    · obtain ⟨e1, h⟩ := ofG b o e
      rcases h with ⟨h, n⟩ | h
      · obtain ⟨o2, q⟩ := Option.isSome_iff_exists.mp h
        have w := fl.1 b o2 q
        rw [e1] at w
        cases w
        exact PySem.W.hideAll_get _ q fun hm => n (List.mem_singleton.mp hm)
      · exact absurd h nb
    · obtain ⟨e1, h⟩ := ofG b o e
      obtain ⟨sl, q⟩ := up b o e1 nf
      have n : b ≠ cenv.locals := h.elim (fun z => z.2) fun z w => ncl (w ▸ z)
      obtain ⟨sl2, q2⟩ := up2 b _ q n nf
      exact ⟨sl2, q2⟩
    · rw [hs]
      exact ⟨held2.1, held2.2.1, held2.2.2.1, traced_more (fun _ _ z => z.1) held2.2.2.2⟩
    · obtain ⟨_, _, _, oe, _, _, _, _, he, hz, _⟩ := held2
      exact ⟨a, oe, rfl, he, hz.2⟩
  show wpAny (model X.prog X.w) X.A (noteFrame (.ref a) cenv) _ _ s'
  rw [noteFrame_env _ hcf]
  rcases sky with ⟨q1, q2, q3, oe, vs, he, hz, hd, h1⟩ | q | q
  · exact PXN.look_newZ sZ frs2 q3 hf he q1 q2 hd h1 hz done
  · exact PXN.looks_onZ sZ frs2 hf q done
  · exact HandSPX.againZ hf q.2.2.2 (done s'.heap q (Heap.UpToSlots.refl _))
end
end RY

namespace RY
open PySem PySem.Spec PyProof.Rows L2
/-- a list's iterator ends -/
def Ends (P : Program) (w : World) (A : Around) (pn : List (Addr × Obj)) : Prop := ∀ (s : Shared) (it l : Addr) (i : Nat) (items : Array Value) (Q : Option Value → Shared → Prop) (E : Value → Shared → Prop), (∀ p ∈ pn, s.heap.get? p.1 = some p.2 ∧ p.1 ≠ it) → s.heap.IsListIter it l i → s.heap.IsList l items → items[i]? = none →
  (∀ h', (∀ b o, b ≠ it → s.heap.get? b = some o → h'.get? b = some o) → Q none { s with heap := h' }) → wpAny (model P w) A (pyNext (.ref it)) Q E s
theorem ends_cold {P : Program} {w : World} {A : Around} {pn : List (Addr × Obj)} (hh : A.handled = none) : Ends P w A pn := fun s it l i items Q E _ hit hl hx hQ => wpAny_pyNext_list_end hh hit hl hx fun h' eb => hQ h' fun b o nb e => eb b o nb e
theorem ends_hot {P : Program} {w : World} {A : Around} {pn : List (Addr × Obj)} {z : Addr × Obj} (hz : L2H.Hot1 A z) (hp : z ∈ pn) : Ends P w A pn := fun s it l i items Q E k hit hl hx hQ => by
  obtain ⟨hh, vs, e, c⟩ := hz
  exact RH.list_endH hh ⟨z.2, vs, (k z hp).1, e, c⟩ (k z hp).2 hit hl hx hQ
section
variable {X : Cx} {W : WX} {C : Obj → Prop} {elt iter : Expr} {y : Str} {py pos : Pos} {scope : Scope} {own : List (Str × Nat)} {tl : TE} {g : TG} {te : XK → TE}
theorem pe_lcX (sC : PXN.Steady1 C) (hN : X.N.Nodup) (hs : X.stack = X.env :: X.outer) (hf : X.env.frame = some X.env.locals) (en : Ends X.prog X.w X.A X.pn) (tk : TkC C X W) (hi : PE X iter tl) (ok : BlkOk X.N X.env.scope scope own)
    (hg : ∀ (s : Shared) (H : Hp) (Ca : Addr) (cl : List (Str × Addr)) (fp : List Addr) (pn : List (Addr × Obj)) (xe : Value → Shared → Prop), PG ((X.blk s H scope (compEnvC scope cl Ca X.env) fp).tr pn xe) (.Name y py) g)
    (he : ∀ (s : Shared) (H : Hp) (Ca : Addr) (cl : List (Str × Addr)) (fp : List Addr) (xe : Value → Shared → Prop) (Eb : XK), (∀ σ', PassesAt (CXC C X.prog X.w) ((X.blk s H scope (compEnvC scope cl Ca X.env) fp).tr X.pn xe) σ' Eb) → PE ((X.blk s H scope (compEnvC scope cl Ca X.env) fp).tr X.pn xe) elt (te Eb))
    (hsI : ∀ x, foldedSetIterable iter X.env x = pure x := by intro _; rfl) :
    PE X (.ListComp elt [⟨.Name y py, iter, [], 0⟩] scope pos) (fun σ => tLc (iList X.K tl) g tYes (te (WE W σ)) (own.map (·.2)) σ) := ⟨fun pins s σ H Q I h => by
  rw [eval_ListComp]
  have hfree : ∀ z ∈ scope.names, z.2 = .free → ∃ c, X.env.cells.lookup z.1 = some c := fun z hz e => (ok.free z hz e).elim (fun k => I.ok.has _ (.inl k)) fun k => I.ok.has _ (.inr k)
  refine comprehension_at (use := none) rfl hsI (closure_ok hfree) ok.kind (fun z hz e => by rw [ok.uniq z hz, e]) (thn (hi.run pins s σ H _ I h) fun xv s1 hx => ?_)
  obtain ⟨v, H1, I1, rv, a, rfl, ⟨xs, hq⟩, q⟩ := hx
  obtain rfl : xv = Value.ref a := rv
  obtain ⟨its, rvs, pl, _⟩ := I1.list hq
  refine wpAny_pyIter_list pl.isList ?_
  have f1 : FpOk X pins H1 s1.heap.objs.size := I1.fpOk (Nat.le_refl _) (I1.hok.fresh (Nat.le_refl _))
  have I2 := I1.kept (h' := s1.heap.push { cls := .type "list_iterator", data := .fields #[.ref a, .int 0 0] }) (t' := s1.toks) fun b o e => Heap.get?_push_of_some _ e
  have st2 : (s1.heap.push { cls := .type "list_iterator", data := .fields #[.ref a, .int 0 0] }).IsListIter s1.heap.objs.size a 0 := ⟨_, Heap.get?_push_size _ rfl, rfl, rfl⟩
  generalize s1.heap.push { cls := .type "list_iterator", data := .fields #[.ref a, .int 0 0] } = h2 at I2 st2 ⊢
  generalize s1.heap.objs.size = it at f1 st2 ⊢
  refine wpAny_newObj_type (newEnv_comp ?_) (by show 0 ≤ sizeLine; decide)
  have hDn : H1 h2.objs.size = none := I2.hok.fresh (Nat.le_refl _)
  obtain ⟨Wn, ⟨m0, w0⟩, turn⟩ := q h2.objs.size hDn
  have I3 := I2.laid (t' := s1.toks) (a := h2.objs.size) (o := .lst []) (h' := h2.push { cls := .type "list", data := .seq ([] : List Value).toArray }) (fun b o e => Heap.get?_push_of_some _ e) (Nat.le_refl _) ⟨Nat.zero_le _, [], 0, .nil, Heap.get?_push_size _ rfl⟩
  have ltI : it < h2.objs.size := let ⟨_, e, _⟩ := st2; Heap.lt_size e
  have f3 : FpOk X pins (upd H1 h2.objs.size (.lst [])) it := ⟨(upd_ne (Nat.ne_of_lt ltI)).trans f1.1, f1.2⟩
  have st3 : (h2.push { cls := .type "list", data := .seq ([] : List Value).toArray }).IsListIter it a 0 := st2.at fun o e => Heap.get?_push_of_some _ e
  have lt3 : it < (h2.push { cls := .type "list", data := .seq ([] : List Value).toArray }).objs.size := by rw [Heap.size_push]; exact Nat.lt_succ_of_lt ltI
  generalize hp3 : h2.push { cls := .type "list", data := .seq ([] : List Value).toArray } = h3 at I3 st3 lt3 ⊢
  generalize h2.objs.size = Dn at I3 f3 turn w0 ⊢
  generalize upd H1 Dn (.lst []) = H3 at I3 f3 w0 ⊢
  have f3' : ∀ b ∈ [it], FpOk X pins H3 b ∧ b < h3.objs.size := fun b hb => by cases List.mem_singleton.mp hb; exact ⟨f3, lt3⟩
  have I4 := block_start I3 ok hN f3'
  have pg := hg { s1 with heap := h3 } H3 h3.objs.size (cellsFrom (h3.objs.size + 1) scope.names (cloFrom X.env.cells scope.names [])) [it]
  have pe := he { s1 with heap := h3 } H3 h3.objs.size (cellsFrom (h3.objs.size + 1) scope.names (cloFrom X.env.cells scope.names [])) [it]
  have st4 : (pushCells (h3.push { cls := .type "dict", data := .dict #[] }) scope.names).IsListIter it a 0 := st3.at fun o e => pushCells_keeps _ _ _ _ (Heap.get?_push_of_some _ e)
  have pn4 : ∀ p ∈ X.pn, (pushCells (h3.push { cls := .type "dict", data := .dict #[] }) scope.names).get? p.1 = some p.2 := fun p hp => pushCells_keeps _ _ _ _ (Heap.get?_push_of_some _ (I3.pin p (List.mem_append_left _ hp)).1)
  show codeAny _ _ (.compStart (.ListComp elt [⟨.Name y py, iter, [], 0⟩] scope pos) 0 (.ref it) (.ref Dn) (compEnvC scope (cellsFrom (h3.objs.size + 1) scope.names (cloFrom X.env.cells scope.names [])) h3.objs.size X.env))
    (compEnds (model X.prog X.w) X.A X.xe none _ (.ref Dn) (compEnvC scope (cellsFrom (h3.objs.size + 1) scope.names (cloFrom X.env.cells scope.names [])) h3.objs.size X.env)) { s1 with heap := pushCells (h3.push { cls := .type "dict", data := .dict #[] }) scope.names }
  generalize hce : compEnvC scope (cellsFrom (h3.objs.size + 1) scope.names (cloFrom X.env.cells scope.names [])) h3.objs.size X.env = ce at I4 pg pe ⊢
  have cL : ce.locals = h3.objs.size := by subst hce; rfl
  have cF : ce.frame = X.env.frame := by subst hce; rfl
  have J4 := (I4.pins_of (pins' := X.pn) fun p hp => by
    obtain ⟨p1, p2, p3, p4, p5⟩ := I3.pin p (List.mem_append_left _ hp)
    exact ⟨pn4 p hp, p2, (by rw [cL]; exact Nat.ne_of_lt (Heap.lt_size p1)), fun hm => (List.mem_cons.mp (I3.stkSub _ hm)).elim p3 p4, p5⟩).toTry (fun _ _ => False)
  have xp : ∀ p ∈ X.pn, p.1 ≠ it := fun p hp => f3.2.2.2.2.2 p (List.mem_append_left _ hp)
  generalize pushCells (h3.push { cls := .type "dict", data := .dict #[] }) scope.names = h4 at J4 st4 ⊢
  -- what leaves the element
  have leaves : ∀ {pins' : List (Addr × Obj)} {σ' : L2.St} {H' : Hp} {s5 s' : Shared} {u : Value} {xe : Value → Shared → Prop}, Inv ((X.blk { s1 with heap := h3 } H3 scope ce [it]).tr X.pn xe) pins' σ' H' s5 → CXC C X.prog X.w X.stack H' s5 (WE W σ) u s' →
      notedBy (model X.prog X.w) X.A ce (CompFails (model X.prog X.w) X.A X.xe ce) u s' := fun {pins' σ' H' s5 s' u xe} I5 c => by
    have I7 : Inv X pins σ H' s5 := I3.call' (ch := [it]) I5.os I5.base I5.hok I5.bare fun b hb => by
      cases List.mem_singleton.mp hb
      exact ⟨f3.2.2.2.1, f3.2.1, f3.2.2.2.2.1, f3.2.2.2.2.2⟩
    obtain ⟨m, hn, _⟩ := I5.loc
    exact out_of sC hs hf tk cF I7 hn (I3.fpOk (by rw [cL]; exact Nat.le_refl _) I5.free) c
  have loop : codeAny (model X.prog X.w) X.A (.compLoop (.ListComp elt [⟨.Name y py, iter, [], 0⟩] scope pos) 0 (.ref it) (.ref Dn) ce) (compEnds (model X.prog X.w) X.A X.xe none (EP X pins σ Q) (.ref Dn) ce) { s1 with heap := h4 } := by
    have pgx := fun xe => pg X.pn xe
    let xb : Value → Shared → Prop := fun u s' => ∃ pins' σ' H' s5, Inv ((X.blk { s1 with heap := h3 } H3 scope ce [it]).tr X.pn fun _ _ => False) pins' σ' H' s5 ∧ CXC C X.prog X.w X.stack H' s5 (WE W σ) u s'
    have pex := pe xb (WE W σ) fun σ' pins' H' s5 e s' I5 c => ⟨pins', σ', H', s5, ⟨I5.ok.ofTry.toTry _ _, I5.os, I5.bare, I5.base, I5.loc, I5.cell, I5.free, I5.freeC, I5.pin, I5.hok, I5.len⟩, c⟩
    have xbOut : ∀ u s', xb u s' → notedBy (model X.prog X.w) X.A ce (fun e s'' => compEnds (model X.prog X.w) X.A X.xe none (EP X pins σ Q) (.ref Dn) ce (.error e) s'') u s' := fun u s' ⟨_, _, _, _, I5, c⟩ => leaves I5 c
    have J4x : Inv ((X.blk { s1 with heap := h3 } H3 scope ce [it]).tr X.pn xb) [] (wipe σ (own.map (·.2))) H3 { s1 with heap := h4 } := ⟨J4.ok.ofTry.toTry _ _, J4.os, J4.bare, J4.base, J4.loc, J4.cell, J4.free, J4.freeC, J4.pin, J4.hok, J4.len⟩
    refine compLoop_any (fun n s' => ∃ (i : Nat) (H' : Hp), Inv ((X.blk { s1 with heap := h3 } H3 scope ce [it]).tr X.pn xb) [] (wipe σ (own.map (·.2))) H' s' ∧ s'.heap.IsListIter it a i ∧ H' it = none ∧ Wn i n H') ?_ m0 ⟨0, H3, J4x, st4, f3.1, w0⟩
    rintro n s5 ⟨i, H5, I5, st5, n5, w5⟩
    have fi : ∀ {H' : Hp}, H' it = none → FpOk ((X.blk { s1 with heap := h3 } H3 scope ce [it]).tr X.pn xb) [] H' it := fun hn => ⟨hn, (I5.ok.exf it (List.mem_singleton.mpr rfl)).1, I5.ok.exfs it (List.mem_singleton.mpr rfl), .inl (List.mem_singleton.mpr rfl), fun z c e => (I5.ok.exf it (List.mem_singleton.mpr rfl)).2 z c e, fun p hp => (List.mem_append.mp hp).elim (xp p) fun w => nomatch w⟩
    obtain ⟨_, g1, g2, g3, g4, g5⟩ := fi n5
    rcases turn i n H5 w5 with ⟨⟨ys, hy, hl⟩, qq⟩ | ⟨⟨ys, x, hy, hx⟩, Nx, hNx, step⟩
    · obtain ⟨its5, rv5, pl5, _⟩ := I5.list hy
      have l5 := rv5.length
      refine en s5 it a i _ _ _ (fun p hp => ⟨(I5.pin p (List.mem_append_left _ hp)).1, xp p hp⟩) st5 pl5.isList (by simp; omega) fun h' kk => ?_
      have I6 := I5.turned (t' := s5.toks) (fun b o nb e => kk b o nb e) n5 g1 g3 g4 g5
      have I7 : Inv X pins σ H5 { s5 with heap := h' } := I3.call' (ch := [it]) I6.os I6.base I6.hok I6.bare fun b hb => by
        cases List.mem_singleton.mp hb
        exact ⟨f3.2.2.2.1, f3.2.1, f3.2.2.2.2.1, f3.2.2.2.2.2⟩
      obtain ⟨m, hn, _⟩ := I6.loc
      obtain ⟨k0, k1, k2, k3, k4, k5⟩ := I3.fpOk (b := ce.locals) (H' := H5) (by rw [cL]; exact Nat.le_refl _) I6.free
      exact ⟨m, hn, fun h'' sb => ⟨.ref Dn, H5, I7.turned (t' := s5.toks) (fun b o hb e => (sb.2 b hb).trans e) k0 k1 k3 k4 k5, rfl, qq⟩⟩
    · obtain ⟨its5, rv5, pl5, _⟩ := I5.list hy
      obtain ⟨u, hu, ru⟩ := rv5.get hx
      refine wpAny_pyNext_list_item st5 pl5.isList (x := u) (by simpa using hu) fun h' st' sb => ?_
      have I6 : Inv ((X.blk { s1 with heap := h3 } H3 scope ce [it]).tr X.pn xb) [] (wipe σ (own.map (·.2))) H5 { s5 with heap := h' } := I5.turned (t' := s5.toks) (fun b o hb e => (sb.2 b hb).trans e) n5 g1 g3 g4 g5
      obtain ⟨oi, ei, ci, di⟩ := id st'
      refine go_of (s := { s5 with heap := h' }) ei ci di (by decide) ?_
      have I6' := I6.pinned (fp := [it]) (fun b hb => by cases List.mem_singleton.mp hb; exact fi n5) fun b hb => by
        cases List.mem_singleton.mp hb
        exact ⟨oi, ei, fun v z => by rw [di] at z; cases z⟩
      refine wpAny_mono ((pgx xb).run _ _ _ H5 x u _ I6' ru (step x H5 ⟨rfl, fun zs hzs => by rw [I6.list_inj hzs hy]; exact hx⟩)) (fun _ s8 ⟨σ8, H8, I8, hw8, q8⟩ => ?_) fun e s' z => xbOut e s' z
      simp only [List.forIn_nil]
      refine wpAny_pure ?_
      have q9 : te (WE W σ) σ8 H8 _ := q8
      simp only [if_true]
      refine wpAny_mono (pex.run _ s8 σ8 H8 _ I8 q9) (fun zv s10 ⟨yv, H10, I10, r10, acc, hD10, hz10, nx⟩ => ?_) fun e s' z => xbOut e s' z
      refine app_ok (X := (X.blk { s1 with heap := h3 } H3 scope ce [it]).tr X.pn xb) I10 hD10 hz10 r10 fun s11 I11 => ?_
      obtain ⟨m', hm, w'⟩ := hNx _ nx
      have pit := I11.pin _ (List.mem_append_right _ (List.mem_append_right _ (mem_pinsAt (List.mem_singleton.mpr rfl) ei)))
      refine ⟨m', hm, i + 1, _, (I11.unpinned (pins := [])).weak (by rw [← hw8, wipe_length]) (fun j v e => ?_), st'.at fun o e => by rw [show h'.get? it = some oi from ei] at e; cases e; exact pit.1, pit.2.1, w'⟩
      rw [← hw8] at e
      exact (wipe_some e).1
  exact codeAny_compStart_list loop (wpAny_pyIter_listiter st4 loop)⟩
end
end RY

--CUT
theorem ok_IsName (T : Top K mg) (TB : Tabs T base) : FnOk P w K mg base CX0 1 T.f_IsName T.fd_IsName ["thing"] (spKind K T.ta_IsName nameB) := by
  refine fun_okC T.F_IsName T.cd_IsName scIsName (fun vs H Q E h => ?_) (fun A outer s H vs Q E hr h => ?_)
  · obtain ⟨v, rfl, hT, hv⟩ := h
    rfl
  · obtain ⟨v, rfl, hT, hv⟩ := h
    refine ⟨_, (pss_cons (ps_if (pt_not (pt_val (pe_callB call_isi (by rfl) T.m_isinstance (by decide +kernel) (pa_cons (pv 0) (pa_cons (pe_bltn (v := .ty "str") (by rfl) T.m_str (by decide +kernel) rfl) pa_nil)))))
      (pss_one (ps_ret pe_bl))
      pss_nil)
      (pss_cons (ps_if (pt_not (pt_chain op_le op_le pe_int (pe_callB call_len_str (by rfl) T.m_len PySem.boot_len (pa_cons (pv 0) pa_nil)) (pe_glob (v := .int 12) rfl T.c_NAME_LENGTH ⟨_, rfl⟩)))
      (pss_one (ps_ret pe_bl))
      pss_nil)
      (pss_one (ps_ret (RG.pe_allG hr (by rfl) T.m_all TB.IsName rfl ⟨by rfl, by rfl, by decide +kernel, by rfl, by rfl, RG.nofree (by decide +kernel)⟩ (pv 0) (RG.elt_in (by rfl) (by rfl) (by rfl) T.c_NAME_SIGNS) (fun _ => rfl)))))), ?_⟩
    refine slots (start_IsName _) ?_
    rcases hv with ⟨z, rfl, hz, q⟩ | ⟨hn, q⟩
    · refine B_when (s_not (s_B (v_issS (v_slot rfl)))) (fun hb => absurd hb (by decide)) fun _ H1 e1 => ?_
      replace q := q.mono e1
      replace hT := e1.tab hT
      refine' B_when ?h ?k1 ?k2
      (case h => refine' s_not ?a; (case a => refine' s_test ?b; (case b => exact v_chain v_con (v_lenS (v_slot rfl) hz) bi_0 (fun _ => v_con) (fun _ => bi_0))))
      all_goals intro hb H2 e2
      · refine S_ret v_con fun H3 e3 => ?_
        have e : nameB z = false := by
          unfold nameB
          rw [Bool.not_eq_true'] at hb
          rw [hb]
          rfl
        rw [e] at q
        exact q H3 (e2.trans e3)
      · have e : nameB z = z.cps.toList.all fun k => decide (k ∈ signs.cps.toList) := by
          unfold nameB
          rw [Bool.not_eq_false'] at hb
          rw [hb]
          rfl
        rw [e] at q
        refine ⟨_, rfl, z, rfl, e2.tab hT, fun H3 tb => ?_⟩
        exact q H3 (e2.trans (.ofTab (e2.tab hT) tb))
    · refine B_when (s_not (s_B (v_nostr (v_slot rfl) hn))) (fun _ H1 e1 => ?_) (fun hb => absurd hb (by decide))
      exact S_ret v_con fun H2 e2 => q H2 (e1.trans e2)
theorem ok_IsWish (T : Top K mg) (TB : Tabs T base) : FnOk P w K mg base CX0 1 T.f_IsWish T.fd_IsWish ["thing"] (spKind K T.ta_IsName wishB) := by
  refine T.F_IsWish.ok scIsWish (fun vs H Q E h => ?_) (fun cdv A outer s H vs Q E hr h => ?_)
  · obtain ⟨v, rfl, hT, hv⟩ := h
    rfl
  · obtain ⟨v, rfl, hT, hv⟩ := h
    refine ⟨_, (pss_one (ps_ret (pe_and (pe_callB call_isi (by rfl) T.m_isinstance (by decide +kernel) (pa_cons (pv 0) (pa_cons (pe_bltn (v := .ty "str") (by rfl) T.m_str (by decide +kernel) rfl) pa_nil))) (pe_one (pe_cmpR op_in_seq (pv 0) (pe_tup (pa_cons (pe_glob (v := .str (Str.ofString "read")) rfl T.c_READ ⟨_, rfl⟩) (pa_cons (pe_glob (v := .str (Str.ofString "write")) rfl T.c_WRITE ⟨_, rfl⟩) pa_nil))) (by rfl)))))), ?_⟩
    refine slots (start_IsWish _) ?_
    rcases hv with ⟨z, rfl, hz, q⟩ | ⟨hn, q⟩
    · refine' S_ret ?h ?k
      (case h => refine' v_and (v_issS (v_slot rfl)) (fun _ => ?b); (case b => exact v_opU (v_slot rfl) (u_tup (g_cons v_con (g_cons v_con g_nil)) (by decide)) (fun p H1 hp _ => bi_inT (SqT.of hp) rfl rfl)))
      intro H1 e1
      have e : (true && (if false = true then !inV (.str z) [V.str (Str.ofString "read"), V.str (Str.ofString "write")] else inV (.str z) [V.str (Str.ofString "read"), V.str (Str.ofString "write")])) = wishB z := by
        rw [if_neg Bool.false_ne_true, Bool.true_and]
        rfl
      rw [e]
      exact q H1 e1
    · refine' S_ret ?h2 ?k2
      (case h2 => exact v_and (c := false) (v_nostr (v_slot rfl) hn) (fun hb => absurd hb (by decide)))
      intro H1 e1
      exact q H1 e1

theorem ok_IsWord (T : Top K mg) (TB : Tabs T base) : FnOk P w K mg base CX0 1 T.f_IsWord T.fd_IsWord ["thing", "words"] (spIsWord K) := by
  refine T.F_IsWord.ok scIsWord (fun vs H Q E h => ?_) (fun cdv A outer s H vs Q E hr h => ?_)
  · obtain ⟨v, p, l, rfl, hv, hp, q⟩ := h
    rfl
  · obtain ⟨v, p, l, rfl, hv, hp, q⟩ := h
    refine ⟨_, (pss_one (ps_ret (pe_and (pe_callB call_isi (by rfl) T.m_isinstance (by decide +kernel) (pa_cons (pv 0) (pa_cons (pe_bltn (v := .ty "str") (by rfl) T.m_str (by decide +kernel) rfl) pa_nil))) (pe_one (pe_cmpR op_in_seq (pv 0) (pv 1) (by rfl)))))), ?_⟩
    refine slots (start_IsWord _ _) ?_
    rcases hv with ⟨z, rfl, hz⟩ | ⟨hn, no⟩
    · refine S_ret (v_and (v_issS (v_slot rfl)) (fun _ => v_op (v_slot rfl) (v_slot rfl) (bi_inT hp rfl (flat_words l)))) fun H1 e1 => ?_
      have e : (true && (if false = true then !inV (.str z) (l.map V.str) else inV (.str z) (l.map V.str))) = wordV l (.str z) := by
        rw [if_neg Bool.false_ne_true, Bool.true_and, in_words]
        rfl
      rw [e]
      exact q H1 e1
    · refine S_ret (v_and (c := false) (v_nostr (v_slot rfl) hn) (fun hb => absurd hb (by decide))) fun H1 e1 => ?_
      rw [(no_of no).2.2] at q
      exact q H1 e1
theorem ok_IsRow (T : Top K mg) (TB : Tabs T base) : FnOk P w K mg base CX0 2 T.f_IsRow T.fd_IsRow ["thing"] (spIsRow K T.ta_IsName) := by
  have GIsWord := ok_IsWord (P := P) (w := w) (base := base) T TB
  have GIsName := ok_IsName (P := P) (w := w) (base := base) T TB
  have GIsWish := ok_IsWish (P := P) (w := w) (base := base) T TB
  refine T.F_IsRow.ok scIsRow (fun vs H Q E h => ?_) (fun cdv A outer s H vs Q E hr h => ?_)
  · obtain ⟨v, rfl, hT, hv⟩ := h
    rfl
  · obtain ⟨v, rfl, hT, hv⟩ := h
    refine ⟨_, (pss_cons (ps_if (pt_not (pt_val (pe_callB call_isi (by rfl) T.m_isinstance (by decide +kernel) (pa_cons (pv 0) (pa_cons (pe_bltn (v := .ty "tuple") (by rfl) T.m_tuple (by decide +kernel) rfl) pa_nil)))))
      (pss_one (ps_ret pe_bl))
      pss_nil)
      (pss_cons (ps_if (pt_cmpR op_eq (pe_callB call_len_seq (by rfl) T.m_len PySem.boot_len (pa_cons (pv 0) pa_nil)) pe_int (nomark _))
      (pss_cons (ps_asg (pv 0) (pg_tup rfl (pgs_cons (pg_name (i := 1) scIsRow.nd rfl (Or.inl rfl)) (pgs_cons (pg_name (i := 2) scIsRow.nd rfl (Or.inl rfl)) (pgs_cons (pg_name (i := 3) scIsRow.nd rfl (Or.inl rfl)) pgs_nil)))))
      (pss_one (ps_ret (pe_and (pe_call GIsWord hr (by rfl) T.g_IsWord T.F_IsWord.kp T.B_IsWord .nil pass0 (pa_cons (pv 1) (pa_cons (pe_tup (pa_cons (pe_glob (v := .str (Str.ofString "came")) rfl T.c_CAME ⟨_, rfl⟩) (pa_cons (pe_glob (v := .str (Str.ofString "begins")) rfl T.c_BEGINS ⟨_, rfl⟩) pa_nil))) pa_nil))) (pe_and (pe_call GIsName hr (by rfl) T.g_IsName T.F_IsName.kp T.B_IsName .nil pass0 (pa_cons (pv 2) pa_nil)) (pe_one (pe_call GIsWish hr (by rfl) T.g_IsWish T.F_IsWish.kp T.B_IsWish .nil pass0 (pa_cons (pv 3) pa_nil))))))))
      pss_nil)
      (pss_cons (ps_if (pt_cmpR op_eq (pe_callB call_len_seq (by rfl) T.m_len PySem.boot_len (pa_cons (pv 0) pa_nil)) pe_int (nomark _))
      (pss_cons (ps_asg (pv 0) (pg_tup rfl (pgs_cons (pg_name (i := 1) scIsRow.nd rfl (Or.inl rfl)) (pgs_cons (pg_name (i := 2) scIsRow.nd rfl (Or.inl rfl)) pgs_nil))))
      (pss_one (ps_ret (pe_and (pe_call GIsWord hr (by rfl) T.g_IsWord T.F_IsWord.kp T.B_IsWord .nil pass0 (pa_cons (pv 1) (pa_cons (pe_tup (pa_cons (pe_glob (v := .str (Str.ofString "left")) rfl T.c_LEFT ⟨_, rfl⟩) (pa_cons (pe_glob (v := .str (Str.ofString "asked")) rfl T.c_ASKED ⟨_, rfl⟩) (pa_cons (pe_glob (v := .str (Str.ofString "eased")) rfl T.c_EASED ⟨_, rfl⟩) pa_nil)))) pa_nil))) (pe_one (pe_call GIsName hr (by rfl) T.g_IsName T.F_IsName.kp T.B_IsName .nil pass0 (pa_cons (pv 2) pa_nil)))))))
      pss_nil)
      (pss_one (ps_ret pe_bl))))), ?_⟩
    refine slots (start_IsRow _) ?_
    rcases hv with ⟨p, xs, rfl, hp, th, q⟩ | ⟨⟨n, ty, kt⟩, q⟩
    rotate_left
    · refine B_when (b := true) (Ts.is (s_not (s_B (v_isi (b := false) (v_slot rfl) v_con (.ty _) (fun _ g => g.tyX ty) kt))) rfl) (fun _ H1 e1 => ?_) (fun hb => nomatch hb)
      exact S_ret v_con fun H2 e2 => q H2 (e1.trans e2)
    refine B_when (b := false) (Ts.is (s_not (s_B (v_ist (v_slot rfl) hp))) rfl) (fun hb => nomatch hb) (fun _ H1 e1 => ?_)
    replace q := q.mono e1
    replace hT := e1.tab hT
    replace hp := e1.tup hp
    replace th : ∀ x ∈ xs, Thing K x H1 := fun x hx => (th x hx).mono e1
    have se : ∀ a b : Int, decide (V.int a = V.int b) = decide (a = b) := fun a b => decide_eq_decide.mpr ⟨V.int.inj, congrArg V.int⟩
    have wd : ∀ {H2 : Hp} {σ : L2.St} {v : V} {E1 : XK} {t2 : TE} (l : List Str), σ[1]? = some (some v) → Thing K v H2 → Tu t2 σ H2 (l.map V.str) → Vl (tCall (spIsWord K) [] E1 (tCons (tVar 1) (tCons t2 tNil))) σ H2 (.bl (wordV l v)) := fun l hs th t => v_callU (v_slot hs) t fun p H1 g e => sv_isword (th.mono g) (SqT.of e)
    refine B_when (b := decide ((xs.length : Int) = 3)) (Ts.is (s_test (v_op (v_lenT (v_slot rfl) (SqT.of hp)) v_con (bi_eq rfl))) (se _ _)) (fun hb H2 e2 => ?_) (fun hb H2 e2 => ?_)
    · have h3 := of_decide_eq_true hb
      match xs, hp, th, q, h3 with
      | [a, b, c], hp, th, q, _ =>
        refine ⟨_, rfl, p, _, rfl, SqT.of (e2.tup hp), rfl, a, _, rfl, b, _, rfl, c, _, rfl, rfl, ?_⟩
        walk_at "n"
        have hT2 := e2.tab hT
        have ta := (th a (by simp)).mono e2
        have tb := (th b (by simp)).mono e2
        have tc := (th c (by simp)).mono e2
        exact S_ret (v_and (wd ["came", "begins"] rfl ta (u_tup (g_cons v_con (g_cons v_con g_nil)) (by decide))) (fun _ => v_and (v_call (g_cons (v_slot rfl) g_nil) (sv_name hT2 tb)) (fun _ => v_call (g_cons (v_slot rfl) g_nil) (sv_wishv hT2 tc)))) fun H3 e3 => q H3 (e2.trans e3)
      | [], _, _, _, h3 => simp at h3
      | [_], _, _, _, h3 => simp at h3
      | [_, _], _, _, _, h3 => simp at h3
      | _ :: _ :: _ :: _ :: _, _, _, _, h3 => exfalso; simp only [List.length_cons] at h3; omega
    · have h3 := of_decide_eq_false hb
      replace q := q.mono e2
      replace hT := e2.tab hT
      replace hp := e2.tup hp
      replace th : ∀ x ∈ xs, Thing K x H2 := fun x hx => (th x hx).mono e2
      refine B_when (b := decide ((xs.length : Int) = 2)) (Ts.is (s_test (v_op (v_lenT (v_slot rfl) (SqT.of hp)) v_con (bi_eq rfl))) (se _ _)) (fun hb2 H3 e3 => ?_) (fun hb2 H3 e3 => ?_)
      · have h2 := of_decide_eq_true hb2
        match xs, hp, th, q, h2 with
        | [a, b], hp, th, q, _ =>
          refine ⟨_, rfl, p, _, rfl, SqT.of (e3.tup hp), rfl, a, _, rfl, b, _, rfl, rfl, ?_⟩
          walk_at "n"
          have hT2 := e3.tab hT
          have ta := (th a (by simp)).mono e3
          have tb := (th b (by simp)).mono e3
          exact S_ret (v_and (wd ["left", "asked", "eased"] rfl ta (u_tup (g_cons v_con (g_cons v_con (g_cons v_con g_nil))) (by decide))) (fun _ => v_call (g_cons (v_slot rfl) g_nil) (sv_name hT2 tb))) fun H4 e4 => q H4 (e3.trans e4)
        | [], _, _, _, h2 => simp at h2
        | [_], _, _, _, h2 => simp at h2
        | _ :: _ :: _ :: _, _, _, _, h2 => exfalso; simp only [List.length_cons] at h2; omega
      · have h2 := of_decide_eq_false hb2
        refine S_ret v_con fun H4 e4 => ?_
        have e : rowV xs = false := by
          match xs, h3, h2 with
          | [], _, _ => rfl
          | [_], _, _ => rfl
          | [_, _], _, h2 => exact absurd rfl h2
          | [_, _, _], h3, _ => exact absurd rfl h3
          | _ :: _ :: _ :: _ :: _, _, _ => rfl
        rw [e] at q
        exact q H4 (e3.trans e4)

section
variable {K : PySem.W.Frag} {σ : L2.St} {H : Hp} {t1 t2 : TE} {a1 : TA} {vs xs : List V} {x z : V} {sp : Sp} {F : L2.St → XK}
theorem v_callH (h : Ag a1 σ H vs) (k : SpV sp vs H z) : Vl (tCallS sp F a1) σ H z := fun H1 _ g q => h H1 _ g fun H2 g2 => k H2 _ (F σ) (g.trans g2) fun H3 g3 => q H3 (g2.trans g3)
theorem v_callUH (a : Vl t1 σ H x) (d : Tu t2 σ H xs) (k : ∀ p H1, Gr H H1 → H1 p = some (.tup xs) → SpV sp [x, .ref p] H1 z) : Vl (tCallS sp F (tCons t1 (tCons t2 tNil))) σ H z :=
  fun H1 Q g q => a H1 _ g fun H2 g2 => d H2 _ (g.trans g2) fun p H3 _ g3 e => k p H3 ((g.trans g2).trans g3) e H3 Q _ (.refl _) fun H4 g4 => q H4 ((g2.trans g3).trans g4)
end

--CUT
theorem okH_IsName (T : Top K mg) (TB : Tabs T base) : L2H.FnH P w K mg base CX0 1 T.f_IsName T.fd_IsName ["thing"] (spKind K T.ta_IsName nameB) := by
  refine RH.okHC T.F_IsName T.cd_IsName scIsName (fun vs H Q E h => ?_) (fun A outer s H vs Q E z hz hr h => ?_)
  · obtain ⟨v, rfl, hT, hv⟩ := h
    rfl
  · obtain ⟨v, rfl, hT, hv⟩ := h
    refine ⟨_, (pss_cons (ps_if (pt_not (pt_val (pe_callB (r := rIsi K) call_isi (by rfl) T.m_isinstance (by decide +kernel) (pa_cons (pv 0) (pa_cons (pe_bltn (v := .ty "str") (by rfl) T.m_str (by decide +kernel) rfl) pa_nil)))))
      (pss_one (ps_ret pe_bl))
      pss_nil)
      (pss_cons (ps_if (pt_not (pt_chain op_le op_le pe_int (pe_callB call_len_str (by rfl) T.m_len PySem.boot_len (pa_cons (pv 0) pa_nil)) (pe_glob (v := .int 12) rfl T.c_NAME_LENGTH ⟨_, rfl⟩)))
      (pss_one (ps_ret pe_bl))
      pss_nil)
      (pss_one (ps_ret (RH.pe_allH hr ⟨_, hz, List.mem_singleton.mpr rfl⟩ (by rfl) T.m_all TB.IsName rfl ⟨by rfl, by rfl, by decide +kernel, by rfl, by rfl, RG.nofree (by decide +kernel)⟩ (pv 0) (RG.elt_in (by rfl) (by rfl) (by rfl) T.c_NAME_SIGNS) (fun _ => rfl)))))), ?_⟩
    refine slots (start_IsName _) ?_
    rcases hv with ⟨z, rfl, hz, q⟩ | ⟨hn, q⟩
    · refine B_when (s_not (s_B (v_issS (v_slot rfl)))) (fun hb => absurd hb (by decide)) fun _ H1 e1 => ?_
      replace q := q.mono e1
      replace hT := e1.tab hT
      refine' B_when ?h ?k1 ?k2
      (case h => refine' s_not ?a; (case a => refine' s_test ?b; (case b => exact v_chain v_con (v_lenS (v_slot rfl) hz) bi_0 (fun _ => v_con) (fun _ => bi_0))))
      all_goals intro hb H2 e2
      · refine S_ret v_con fun H3 e3 => ?_
        have e : nameB z = false := by
          unfold nameB
          rw [Bool.not_eq_true'] at hb
          rw [hb]
          rfl
        rw [e] at q
        exact q H3 (e2.trans e3)
      · have e : nameB z = z.cps.toList.all fun k => decide (k ∈ signs.cps.toList) := by
          unfold nameB
          rw [Bool.not_eq_false'] at hb
          rw [hb]
          rfl
        rw [e] at q
        refine ⟨_, rfl, z, rfl, e2.tab hT, fun H3 tb => ?_⟩
        exact q H3 (e2.trans (.ofTab (e2.tab hT) tb))
    · refine B_when (s_not (s_B (v_nostr (v_slot rfl) hn))) (fun _ H1 e1 => ?_) (fun hb => absurd hb (by decide))
      exact S_ret v_con fun H2 e2 => q H2 (e1.trans e2)
theorem okH_IsWish (T : Top K mg) (TB : Tabs T base) : L2H.FnH P w K mg base CX0 1 T.f_IsWish T.fd_IsWish ["thing"] (spKind K T.ta_IsName wishB) := by
  refine RX.okH T.F_IsWish scIsWish (fun vs H Q E h => ?_) (fun cdv A outer s H vs Q E z hz hr h => ?_)
  · obtain ⟨v, rfl, hT, hv⟩ := h
    rfl
  · obtain ⟨v, rfl, hT, hv⟩ := h
    refine ⟨_, (pss_one (ps_ret (pe_and (pe_callB (r := rIsi K) call_isi (by rfl) T.m_isinstance (by decide +kernel) (pa_cons (pv 0) (pa_cons (pe_bltn (v := .ty "str") (by rfl) T.m_str (by decide +kernel) rfl) pa_nil))) (pe_one (pe_cmpR (r := rIn K false) op_in_seq (pv 0) (pe_tup (pa_cons (pe_glob (v := .str (Str.ofString "read")) rfl T.c_READ ⟨_, rfl⟩) (pa_cons (pe_glob (v := .str (Str.ofString "write")) rfl T.c_WRITE ⟨_, rfl⟩) pa_nil))) (by rfl)))))), ?_⟩
    refine slots (start_IsWish _) ?_
    rcases hv with ⟨z, rfl, hz, q⟩ | ⟨hn, q⟩
    · refine' S_ret ?h ?k
      (case h => refine' v_and (v_issS (v_slot rfl)) (fun _ => ?b); (case b => exact v_opU (v_slot rfl) (u_tup (g_cons v_con (g_cons v_con g_nil)) (by decide)) (fun p H1 hp _ => bi_inT (SqT.of hp) rfl rfl)))
      intro H1 e1
      have e : (true && (if false = true then !inV (.str z) [V.str (Str.ofString "read"), V.str (Str.ofString "write")] else inV (.str z) [V.str (Str.ofString "read"), V.str (Str.ofString "write")])) = wishB z := by
        rw [if_neg Bool.false_ne_true, Bool.true_and]
        rfl
      rw [e]
      exact q H1 e1
    · refine' S_ret ?h2 ?k2
      (case h2 => exact v_and (c := false) (v_nostr (v_slot rfl) hn) (fun hb => absurd hb (by decide)))
      intro H1 e1
      exact q H1 e1
theorem okH_IsWord (T : Top K mg) (TB : Tabs T base) : L2H.FnH P w K mg base CX0 1 T.f_IsWord T.fd_IsWord ["thing", "words"] (spIsWord K) := by
  refine RX.okH T.F_IsWord scIsWord (fun vs H Q E h => ?_) (fun cdv A outer s H vs Q E z hz hr h => ?_)
  · obtain ⟨v, p, l, rfl, hv, hp, q⟩ := h
    rfl
  · obtain ⟨v, p, l, rfl, hv, hp, q⟩ := h
    refine ⟨_, (pss_one (ps_ret (pe_and (pe_callB (r := rIsi K) call_isi (by rfl) T.m_isinstance (by decide +kernel) (pa_cons (pv 0) (pa_cons (pe_bltn (v := .ty "str") (by rfl) T.m_str (by decide +kernel) rfl) pa_nil))) (pe_one (pe_cmpR (r := rIn K false) op_in_seq (pv 0) (pv 1) (by rfl)))))), ?_⟩
    refine slots (start_IsWord _ _) ?_
    rcases hv with ⟨z, rfl, hz⟩ | ⟨hn, no⟩
    · refine S_ret (v_and (v_issS (v_slot rfl)) (fun _ => v_op (v_slot rfl) (v_slot rfl) (bi_inT hp rfl (flat_words l)))) fun H1 e1 => ?_
      have e : (true && (if false = true then !inV (.str z) (l.map V.str) else inV (.str z) (l.map V.str))) = wordV l (.str z) := by
        rw [if_neg Bool.false_ne_true, Bool.true_and, in_words]
        rfl
      rw [e]
      exact q H1 e1
    · refine S_ret (v_and (c := false) (v_nostr (v_slot rfl) hn) (fun hb => absurd hb (by decide))) fun H1 e1 => ?_
      rw [(no_of no).2.2] at q
      exact q H1 e1
theorem okH_IsRow (T : Top K mg) (TB : Tabs T base) : L2H.FnH P w K mg base CX0 2 T.f_IsRow T.fd_IsRow ["thing"] (spIsRow K T.ta_IsName) := by
  have HIsWord := okH_IsWord (P := P) (w := w) (base := base) T TB
  have HIsName := okH_IsName (P := P) (w := w) (base := base) T TB
  have HIsWish := okH_IsWish (P := P) (w := w) (base := base) T TB
  refine RX.okH T.F_IsRow scIsRow (fun vs H Q E h => ?_) (fun cdv A outer s H vs Q E z hz hr h => ?_)
  · obtain ⟨v, rfl, hT, hv⟩ := h
    rfl
  · obtain ⟨v, rfl, hT, hv⟩ := h
    refine ⟨_, (pss_cons (ps_if (pt_not (pt_val (pe_callB (r := rIsi K) call_isi (by rfl) T.m_isinstance (by decide +kernel) (pa_cons (pv 0) (pa_cons (pe_bltn (v := .ty "tuple") (by rfl) T.m_tuple (by decide +kernel) rfl) pa_nil)))))
      (pss_one (ps_ret pe_bl))
      pss_nil)
      (pss_cons (ps_if (pt_cmpR op_eq (pe_callB (r := fLen K) call_len_seq (by rfl) T.m_len PySem.boot_len (pa_cons (pv 0) pa_nil)) pe_int (nomark _))
      (pss_cons (ps_asg (pv 0) (RH.pg_tupH ⟨_, hz, List.mem_singleton.mpr rfl⟩ (pgs_cons (pg_name (i := 1) scIsRow.nd rfl (Or.inl rfl)) (pgs_cons (pg_name (i := 2) scIsRow.nd rfl (Or.inl rfl)) (pgs_cons (pg_name (i := 3) scIsRow.nd rfl (Or.inl rfl)) pgs_nil)))))
      (pss_one (ps_ret (pe_and (L2H.pe_callH (E := fun _ => E0) HIsWord hr ⟨_, hz, List.mem_singleton.mpr rfl⟩ (by rfl) T.g_IsWord T.F_IsWord.kp T.B_IsWord RX.passA0 (pa_cons (pv 1) (pa_cons (pe_tup (pa_cons (pe_glob (v := .str (Str.ofString "came")) rfl T.c_CAME ⟨_, rfl⟩) (pa_cons (pe_glob (v := .str (Str.ofString "begins")) rfl T.c_BEGINS ⟨_, rfl⟩) pa_nil))) pa_nil))) (pe_and (L2H.pe_callH (E := fun _ => E0) HIsName hr ⟨_, hz, List.mem_singleton.mpr rfl⟩ (by rfl) T.g_IsName T.F_IsName.kp T.B_IsName RX.passA0 (pa_cons (pv 2) pa_nil)) (pe_one (L2H.pe_callH (E := fun _ => E0) HIsWish hr ⟨_, hz, List.mem_singleton.mpr rfl⟩ (by rfl) T.g_IsWish T.F_IsWish.kp T.B_IsWish RX.passA0 (pa_cons (pv 3) pa_nil))))))))
      pss_nil)
      (pss_cons (ps_if (pt_cmpR op_eq (pe_callB (r := fLen K) call_len_seq (by rfl) T.m_len PySem.boot_len (pa_cons (pv 0) pa_nil)) pe_int (nomark _))
      (pss_cons (ps_asg (pv 0) (RH.pg_tupH ⟨_, hz, List.mem_singleton.mpr rfl⟩ (pgs_cons (pg_name (i := 1) scIsRow.nd rfl (Or.inl rfl)) (pgs_cons (pg_name (i := 2) scIsRow.nd rfl (Or.inl rfl)) pgs_nil))))
      (pss_one (ps_ret (pe_and (L2H.pe_callH (E := fun _ => E0) HIsWord hr ⟨_, hz, List.mem_singleton.mpr rfl⟩ (by rfl) T.g_IsWord T.F_IsWord.kp T.B_IsWord RX.passA0 (pa_cons (pv 1) (pa_cons (pe_tup (pa_cons (pe_glob (v := .str (Str.ofString "left")) rfl T.c_LEFT ⟨_, rfl⟩) (pa_cons (pe_glob (v := .str (Str.ofString "asked")) rfl T.c_ASKED ⟨_, rfl⟩) (pa_cons (pe_glob (v := .str (Str.ofString "eased")) rfl T.c_EASED ⟨_, rfl⟩) pa_nil)))) pa_nil))) (pe_one (L2H.pe_callH (E := fun _ => E0) HIsName hr ⟨_, hz, List.mem_singleton.mpr rfl⟩ (by rfl) T.g_IsName T.F_IsName.kp T.B_IsName RX.passA0 (pa_cons (pv 2) pa_nil)))))))
      pss_nil)
      (pss_one (ps_ret pe_bl))))), ?_⟩
    refine slots (start_IsRow _) ?_
    rcases hv with ⟨p, xs, rfl, hp, th, q⟩ | ⟨⟨n, ty, kt⟩, q⟩
    rotate_left
    · refine B_when (b := true) (Ts.is (s_not (s_B (v_isi (b := false) (v_slot rfl) v_con (.ty _) (fun _ g => g.tyX ty) kt))) rfl) (fun _ H1 e1 => ?_) (fun hb => nomatch hb)
      exact S_ret v_con fun H2 e2 => q H2 (e1.trans e2)
    refine B_when (b := false) (Ts.is (s_not (s_B (v_ist (v_slot rfl) hp))) rfl) (fun hb => nomatch hb) (fun _ H1 e1 => ?_)
    replace q := q.mono e1
    replace hT := e1.tab hT
    replace hp := e1.tup hp
    replace th : ∀ x ∈ xs, Thing K x H1 := fun x hx => (th x hx).mono e1
    have se : ∀ a b : Int, decide (V.int a = V.int b) = decide (a = b) := fun a b => decide_eq_decide.mpr ⟨V.int.inj, congrArg V.int⟩
    have wd : ∀ {H2 : Hp} {σ : L2.St} {v : V} {t2 : TE} (l : List Str), σ[1]? = some (some v) → Thing K v H2 → Tu t2 σ H2 (l.map V.str) → Vl (tCallS (spIsWord K) (fun _ => E0) (tCons (tVar 1) (tCons t2 tNil))) σ H2 (.bl (wordV l v)) := fun l hs th t => v_callUH (v_slot hs) t fun p H1 g e => sv_isword (th.mono g) (SqT.of e)
    refine B_when (b := decide ((xs.length : Int) = 3)) (Ts.is (s_test (v_op (v_lenT (v_slot rfl) (SqT.of hp)) v_con (bi_eq rfl))) (se _ _)) (fun hb H2 e2 => ?_) (fun hb H2 e2 => ?_)
    · have h3 := of_decide_eq_true hb
      match xs, hp, th, q, h3 with
      | [a, b, c], hp, th, q, _ =>
        refine ⟨_, rfl, p, _, rfl, SqT.of (e2.tup hp), rfl, a, _, rfl, b, _, rfl, c, _, rfl, rfl, ?_⟩
        walk_at "n"
        have hT2 := e2.tab hT
        have ta := (th a (by simp)).mono e2
        have tb := (th b (by simp)).mono e2
        have tc := (th c (by simp)).mono e2
        exact S_ret (v_and (wd ["came", "begins"] rfl ta (u_tup (g_cons v_con (g_cons v_con g_nil)) (by decide))) (fun _ => v_and (v_callH (g_cons (v_slot rfl) g_nil) (sv_name hT2 tb)) (fun _ => v_callH (g_cons (v_slot rfl) g_nil) (sv_wishv hT2 tc)))) fun H3 e3 => q H3 (e2.trans e3)
      | [], _, _, _, h3 => simp at h3
      | [_], _, _, _, h3 => simp at h3
      | [_, _], _, _, _, h3 => simp at h3
      | _ :: _ :: _ :: _ :: _, _, _, _, h3 => exfalso; simp only [List.length_cons] at h3; omega
    · have h3 := of_decide_eq_false hb
      replace q := q.mono e2
      replace hT := e2.tab hT
      replace hp := e2.tup hp
      replace th : ∀ x ∈ xs, Thing K x H2 := fun x hx => (th x hx).mono e2
      refine B_when (b := decide ((xs.length : Int) = 2)) (Ts.is (s_test (v_op (v_lenT (v_slot rfl) (SqT.of hp)) v_con (bi_eq rfl))) (se _ _)) (fun hb2 H3 e3 => ?_) (fun hb2 H3 e3 => ?_)
      · have h2 := of_decide_eq_true hb2
        match xs, hp, th, q, h2 with
        | [a, b], hp, th, q, _ =>
          refine ⟨_, rfl, p, _, rfl, SqT.of (e3.tup hp), rfl, a, _, rfl, b, _, rfl, rfl, ?_⟩
          walk_at "n"
          have hT2 := e3.tab hT
          have ta := (th a (by simp)).mono e3
          have tb := (th b (by simp)).mono e3
          exact S_ret (v_and (wd ["left", "asked", "eased"] rfl ta (u_tup (g_cons v_con (g_cons v_con (g_cons v_con g_nil))) (by decide))) (fun _ => v_callH (g_cons (v_slot rfl) g_nil) (sv_name hT2 tb))) fun H4 e4 => q H4 (e3.trans e4)
        | [], _, _, _, h2 => simp at h2
        | [_], _, _, _, h2 => simp at h2
        | _ :: _ :: _ :: _, _, _, _, h2 => exfalso; simp only [List.length_cons] at h2; omega
      · have h2 := of_decide_eq_false hb2
        refine S_ret v_con fun H4 e4 => ?_
        have e : rowV xs = false := by
          match xs, h3, h2 with
          | [], _, _ => rfl
          | [_], _, _ => rfl
          | [_, _], _, h2 => exact absurd rfl h2
          | [_, _, _], h3, _ => exact absurd rfl h3
          | _ :: _ :: _ :: _ :: _, _, _ => rfl
        rw [e] at q
        exact q H4 (e3.trans e4)
theorem okY_RowOf (T : Top K mg) (TB : Tabs T base) {y : Addr × Obj} : RY.FnY y P w K mg base (RY.CXy y.1 P w) 3 T.f_RowOf T.fd_RowOf ["line"] (spRowOf K T.ta_IsName) := by
  have HIsRow := okH_IsRow (P := P) (w := w) (base := base) T TB
  refine RY.okY T.F_RowOf scRowOf (fun vs H Q E h => ?_) (fun cdv A outer s H vs Q E hz hr h => ?_)
  · obtain ⟨z, rfl, hT, hzl, q1, q2⟩ := h
    rfl
  · obtain ⟨z, rfl, hT, hzl, q1, q2⟩ := h
    refine ⟨_, (pss_cons (ps_set (i := 1) scRowOf.nd rfl (Or.inl rfl) (pe_callTy call_tuple_of (by rfl) T.m_tuple (by decide +kernel) (pa_cons (pe_bm PySem.F.plainAttrs_str PySem.F.slot_str_split PySem.F.type_str_split mt_split (pv 0) (pa_cons pe_str pa_nil)) pa_nil)))
      (pss_cons (ps_if (pt_not (pt_val (L2H.pe_callH (E := fun _ => E0) HIsRow hr ⟨_, hz, List.mem_singleton.mpr rfl⟩ (by rfl) T.g_IsRow T.F_IsRow.kp T.B_IsRow RX.passA0 (pa_cons (pv 1) pa_nil))))
      (pss_one (RY.raiseY hz (List.mem_singleton.mpr rfl) (RY.tk_of rfl rfl rfl rfl) (L2N.pmk_own PySem.F.excBase_ValueError T.xx_BadText.1 T.gc_BadText T.xx_BadText.2.1 (raises_own T.xx_BadText.2.2.1 T.xx_BadText.2.2.2) (by exact rfl))))
      pss_nil)
      (pss_one (ps_ret (pv 1))))), ?_⟩
    refine slots (start_RowOf _) ?_
    refine B_setU (u_ofL (l_split (v_slot rfl) v_con (by decide +kernel) (by omega))) fun p H1 hp e1 h1 => ?_
    walk_at "n"
    have hT1 := e1.tab hT
    refine B_when (b := !lineOk z) (s_not (s_B (v_callH (g_cons (v_slot rfl) g_nil) (sv_isrow hT1 h1 (things_str (b := 10000) (by decide) fun s hs => Nat.le_trans (PyProof.Rows.part_short hs) hzl))))) (fun hb H2 e2 => ?_) fun hb H2 e2 => ?_
    · exact q2 (by rw [Bool.not_eq_true'] at hb; exact hb) H2 (e1.trans e2)
    · exact S_ret (v_slot rfl) fun H3 e3 => q1 (by rw [Bool.not_eq_false'] at hb; exact hb) _ H3 ((e1.trans e2).trans e3) ⟨p, rfl, (e2.trans e3).tup h1⟩

--CUT
/-! ### a text read: its rows, or none -/
def parse (z : Str) : Option (List JRow) := if (Txt.split z "\n").getLast? = some "" ∧ (Txt.split z "\n").dropLast.all lineOk = true then some ((Txt.split z "\n").dropLast.map wordsOf) else none
def NewRows (H : Hp) (l : List JRow) (v : V) (H1 : Hp) : Prop := ∃ la ya, v = .ref la ∧ H la = none ∧ H1 la = some (.lst ya) ∧ TupsAt H1 JRow.vs ya l
def spRead12 (K : PySem.W.Frag) (P : Addr) : Sp := fun vs H Q E => ∃ v, vs = [v] ∧ GxR.TabG H P ∧ ((NoStr K v H ∧ ∀ H1, Gr H H1 → E (.ref (He.ga K "BadText")) none H1) ∨
  ∃ z : Str, v = .str z ∧ z.length ≤ 10000 ∧ (parse z = none → ∀ H1, Gr H H1 → E (.ref (He.ga K "BadText")) none H1) ∧ (∀ l, parse z = some l → RR_ (NewRows H l) H Q))
section
variable {K : PySem.W.Frag} {σ : L2.St} {H H' : Hp} {t1 t2 t3 : TE} {c1 c2 : TT} {x y z v : V} {D : Ends} {u1 u2 : TS}
theorem r_cmpK {β : Type} (ok : Nat → Prop) {g : β → List V} (F : Nat → β) {a : Addr} {xs : List V} {j : Nat} {ws : List Nat} (h : Vl t2 σ H (.ref a)) (s : SqL K H a xs) (hz : xs.length ≤ 40000) (hw : ∀ x, wipe ((wipe σ ws).set j (some x)) ws = wipe σ ws)
    (he : ∀ (m : Nat) (x : V) H1, Gr H H1 → xs[m]? = some x → Vr t1 ((wipe σ ws).set j (some x)) H1 (fun v H2 => ok m ∧ ∃ p, v = .ref p ∧ H2 p = some (.tup (g (F m))))) :
    Vr (tLc (iList K t2) (gName j) tYes t1 ws) σ H (fun v H1 => (∀ m, m < xs.length → ok m) ∧ ∃ la ya, v = .ref la ∧ H la = none ∧ H1 la = some (.lst ya) ∧ TupsAt H1 g ya ((List.range xs.length).map F)) := fun H0 Q gr q => h H0 _ gr fun H1 g1 => ⟨a, rfl, ⟨xs, (gr.trans g1).sl s⟩, fun p hp =>
  lc_list (xs := xs) (fun m H' => H1 p = none ∧ Gr H1 H' ∧ (∀ k, k < m → ok k) ∧ ∃ ya, H' p = some (.lst ya) ∧ TupsAt H' g ya ((List.range m).map F)) ⟨hp, .new hp, fun k hk => absurd hk (Nat.not_lt_zero _), [], upd_same, .nil⟩ (fun _ H' _ w => ((gr.trans g1).trans w.2.1).sl s) (fun m x H' hm ⟨w1, w2, wk, ya, w3, w4⟩ => ⟨hw x, s_yes H' _ (.refl _) fun H3 g3 => iteT (he m x H3 (((gr.trans g1).trans w2).trans g3) hm H3 _ (.refl _) fun v H4 g4 ⟨okm, t, ev, e4⟩ => by
    subst ev
    have hp4 := g4.lst (g3.lst w3)
    have ly := w4.length
    rw [List.length_map, List.length_range] at ly
    have hm2 := (List.getElem?_eq_some_iff.mp hm).1
    refine ⟨ya, hp4, small' (by omega), w1, ((w2.trans g3).trans g4).chg w1, fun k hk => (Nat.lt_or_eq_of_le (Nat.le_of_lt_succ hk)).elim (wk k) fun e => e ▸ okm, ya ++ [.ref t], upd_same, ?_⟩
    rw [List.range_succ, List.map_append]
    exact ((w4.mono (g3.trans g4)).chg fun ts z => by rw [hp4] at z; cases z).snoc ((upd_ne fun z => by rw [z, hp4] at e4; cases e4).trans e4))⟩)
    fun H' ⟨w1, w2, wk, ya, w3, w4⟩ => q _ H' (g1.trans w2) ⟨wk, p, ya, rfl, (gr.trans g1).free w1, w3, w4⟩⟩
end

theorem ok_RowOf (T : Top K mg) (TB : Tabs T base) : FnOk P w K mg base (L2N.CX P w) 3 T.f_RowOf T.fd_RowOf ["line"] (spRowOf K T.ta_IsName) := by
  have GIsRow := ok_IsRow (P := P) (w := w) (base := base) T TB
  refine RX.okN T.F_RowOf scRowOf (fun vs H Q E h => ?_) (fun cdv A outer s H vs Q E hr h => ?_)
  · obtain ⟨z, rfl, hT, hz, q1, q2⟩ := h
    rfl
  · obtain ⟨z, rfl, hT, hz, q1, q2⟩ := h
    refine ⟨_, (pss_cons (ps_set (i := 1) scRowOf.nd rfl (Or.inl rfl) (pe_callTy call_tuple_of (by rfl) T.m_tuple (by decide +kernel) (pa_cons (pe_bm PySem.F.plainAttrs_str PySem.F.slot_str_split PySem.F.type_str_split mt_split (pv 0) (pa_cons pe_str pa_nil)) pa_nil)))
      (pss_cons (ps_if (pt_not (pt_val (pe_call GIsRow hr (by rfl) T.g_IsRow T.F_IsRow.kp T.B_IsRow .nil pass0 (pa_cons (pv 1) pa_nil))))
      (pss_one (L2N.ps_raise rfl (L2N.takes_of rfl rfl rfl rfl) (L2N.pmk_own PySem.F.excBase_ValueError T.xx_BadText.1 T.gc_BadText T.xx_BadText.2.1 (raises_own T.xx_BadText.2.2.1 T.xx_BadText.2.2.2) (by exact rfl))))
      pss_nil)
      (pss_one (ps_ret (pv 1))))), ?_⟩
    refine slots (start_RowOf _) ?_
    refine B_setU (u_ofL (l_split (v_slot rfl) v_con (by decide +kernel) (by omega))) fun p H1 hp e1 h1 => ?_
    walk_at "n"
    have hT1 := e1.tab hT
    refine B_when (b := !lineOk z) (s_not (s_B (v_call (g_cons (v_slot rfl) g_nil) (sv_isrow hT1 h1 (things_str (b := 10000) (by decide) fun s hs => Nat.le_trans (PyProof.Rows.part_short hs) hz))))) (fun hb H2 e2 => ?_) fun hb H2 e2 => ?_
    · exact q2 (by rw [Bool.not_eq_true'] at hb; exact hb) H2 (e1.trans e2)
    · exact S_ret (v_slot rfl) fun H3 e3 => q1 (by rw [Bool.not_eq_false'] at hb; exact hb) _ H3 ((e1.trans e2).trans e3) ⟨p, rfl, (e2.trans e3).tup h1⟩

--CUT
theorem ok_ReadT (T : Top K mg) (TB : Tabs T base) : FnOk P w K mg base (L2N.CX P w) 4 T.f_ReadT T.fd_ReadT ["text"] (spRead12 K T.ta_IsName) := by
  have GRowOf := ok_RowOf (P := P) (w := w) (base := base) T TB
  refine RX.okN T.F_ReadT scReadT (fun vs H Q E h => ?_) (fun cdv A outer s H vs Q E hr h => ?_)
  · obtain ⟨v, rfl, hT, hv⟩ := h
    rfl
  · obtain ⟨v, rfl, hT, hv⟩ := h
    refine ⟨_, (pss_cons (ps_if (pt_not (pt_val (pe_callB call_isi (by rfl) T.m_isinstance (by decide +kernel) (pa_cons (pv 0) (pa_cons (pe_bltn (v := .ty "str") (by rfl) T.m_str (by decide +kernel) rfl) pa_nil)))))
      (pss_one (L2N.ps_raise rfl (L2N.takes_of rfl rfl rfl rfl) (L2N.pmk_own PySem.F.excBase_ValueError T.xx_BadText.1 T.gc_BadText T.xx_BadText.2.1 (raises_own T.xx_BadText.2.2.1 T.xx_BadText.2.2.2) (by exact rfl))))
      pss_nil)
      (pss_cons (ps_set (i := 1) scReadT.nd rfl (Or.inl rfl) (pe_bm PySem.F.plainAttrs_str PySem.F.slot_str_split PySem.F.type_str_split mt_split (pv 0) (pa_cons (pe_glob (v := .str (Str.ofString "\n")) rfl T.c_LINE_END ⟨_, rfl⟩) pa_nil)))
      (pss_cons (ps_if (pt_cmpR op_ne (pe_bm0 PySem.F.plainAttrs_list PySem.F.slot_list_pop PySem.F.type_list_pop mt_pop (pv 1)) pe_str (nomark _))
      (pss_one (L2N.ps_raise rfl (L2N.takes_of rfl rfl rfl rfl) (L2N.pmk_own PySem.F.excBase_ValueError T.xx_BadText.1 T.gc_BadText T.xx_BadText.2.1 (raises_own T.xx_BadText.2.2.1 T.xx_BadText.2.2.2) (by exact rfl))))
      pss_nil)
      (pss_one (ps_ret (RY.pe_lcX (C := PXN.CtxN) (own := [("line", 2)]) PXN.steady_ctx scReadT.nd rfl rfl (RY.ends_cold hr.hd) (RY.tkc_of (L2N.takes_of rfl rfl rfl rfl)) (pv 1) (blkOk_by (own := [("line", 2)]) (N := nmReadT) (sc := defScope sReadT) (by decide +kernel)) (fun _ _ _ _ _ _ _ => (pg_name (i := 2) scReadT.nd rfl (Or.inl rfl))) (fun _ _ _ _ _ _ Eb hx1 => (pe_callS (E := fun _ => Eb) GRowOf hr (by rfl) T.g_RowOf T.F_RowOf.kp T.B_RowOf (fun σ1 pins1 H1 s1 e1 s2 I1 c1 => hx1 σ1 pins1 H1 s1 e1 s2 I1 (RY.cxc_of c1)) (pa_cons (pv 2) pa_nil))))))))), ?_⟩
    refine slots (start_ReadT _) ?_
    rcases hv with ⟨hn, qe⟩ | ⟨z, rfl, lz, qe, q⟩
    · exact B_when (b := true) (Ts.is (s_not (s_B (v_nostr (v_slot rfl) hn))) rfl) (fun _ H1 e1 => qe H1 e1) fun hb => nomatch hb
    have en : ("\n" : Str).length = 1 := rfl
    refine B_when (b := false) (Ts.is (s_not (s_B (v_issS (v_slot rfl)))) rfl) (fun hb => nomatch hb) fun _ H1 e1 => ?_
    refine B_setL (l_split (v_slot rfl) v_con (by decide +kernel) (by omega)) fun p H2 hp e2 h2 => ?_
    walk_at "n"
    have e12 := e1.trans e2
    obtain ⟨init, last, ews⟩ : ∃ init last, Txt.split z (Str.ofString "\n") = init ++ [last] := by
      rcases List.eq_nil_or_concat (Txt.split z (Str.ofString "\n")) with h | ⟨i, l, h⟩
      · have := PyProof.Rows.split_pos z (Str.ofString "\n")
        rw [h] at this
        cases this
      · exact ⟨i, l, by rw [h, List.concat_eq_append]⟩
    have short : ∀ s ∈ init ++ [last], s.length ≤ 10000 := fun s hs => Nat.le_trans (PyProof.Rows.part_short (by rw [ews]; exact hs)) lz
    have many : (init ++ [last]).length ≤ z.length + 2 := by
      rw [← ews]
      exact (PyProof.Rows.fact_split z (Str.ofString "\n")).2
    have pe : parse z = if last = "" ∧ init.all lineOk = true then some (init.map wordsOf) else none := by
      unfold parse
      rw [show Txt.split z "\n" = init ++ [last] from ews, List.getLast?_append, List.dropLast_concat]
      simp
    rw [ews] at h2
    have ll : ((init ++ [last]).map V.str).length = init.length + 1 := by rw [List.length_map, List.length_append]; rfl
    rw [List.length_append] at many
    have ln : init.length ≤ 10002 := by simp only [List.length_singleton] at many; omega
    refine B_whenPop (a := last) (v_slot rfl) h2 (by rw [ll, Nat.add_sub_cancel, List.map_append, List.getElem?_append_right (by rw [List.length_map]; exact Nat.le_refl _), List.length_map, Nat.sub_self]; rfl) (fun n H3 e3 => ?_) fun el H3 e3 => ?_
    · refine qe (by rw [pe, if_neg fun h => n h.1]) _ ((e12.trans e3).chg (e1.free hp))
    rw [List.map_append, show ([last] : List Str).map V.str = [V.str last] from rfl, List.dropLast_concat]
    have np := e1.free hp
    have g3 := (e12.trans e3).chg np (o := .lst (init.map V.str))
    have h3 : (upd H3 p (.lst (init.map V.str))) p = some (.lst (init.map V.str)) := upd_same
    generalize upd H3 p (.lst (init.map V.str)) = H4 at g3 h3 ⊢
    refine S_retR (R := fun v H1 => (∀ m, m < (init.map V.str).length → lineOk (init.getD m "") = true) ∧ NewRows H4 ((List.range (init.map V.str).length).map fun m => wordsOf (init.getD m "")) v H1) (r_cmpK (g := JRow.vs) (fun m => lineOk (init.getD m "") = true) (fun m => wordsOf (init.getD m "")) (v_slot rfl) (SqL.of h3) (by rw [List.length_map]; omega) (fun _ => rfl) fun m x H5 e5 hx => ?_) fun v H5 e5 ⟨oks, la, ya, ev, hla, h5, t5⟩ => ?_
    · rw [List.getElem?_map] at hx
      cases er : init[m]? with
      | none => rw [er] at hx; cases hx
      | some r =>
        rw [er] at hx
        obtain rfl := Option.some.inj hx
        have eg : init.getD m "" = r := by rw [List.getD_eq_getElem?_getD, er]; rfl
        rw [eg]
        have mr := List.mem_of_getElem? er
        exact fun H6 Q6 g6 k6 => (show Ag (tCons (tVar 2) tNil) _ _ _ from g_cons (v_slot rfl) g_nil) H6 _ g6 fun H7 g7 => ⟨r, rfl, (g3.trans ((e5.trans g6).trans g7)).tab hT, short r (List.mem_append_left _ mr), fun lo v8 H8 g8 h8 => k6 v8 H8 (g7.trans g8) ⟨lo, h8⟩, fun lo H8 g8 => qe (by
          rw [pe, if_neg fun h => by
            have := List.all_eq_true.mp h.2 r mr
            rw [lo] at this
            cases this]) H8 (g3.trans (((e5.trans g6).trans g7).trans g8))⟩
    · have all : init.all lineOk = true := List.all_eq_true.mpr fun r mr => by
        obtain ⟨m, hm, rfl⟩ := List.mem_iff_getElem.mp mr
        have := oks m (by rw [List.length_map]; exact hm)
        rwa [List.getD_eq_getElem?_getD, List.getElem?_eq_getElem hm] at this
      have er : (List.range (init.map V.str).length).map (fun m => wordsOf (init.getD m "")) = init.map wordsOf := by
        rw [List.length_map]
        refine List.ext_getElem? fun i => ?_
        rw [List.getElem?_map, List.getElem?_map]
        by_cases h : i < init.length
        · rw [List.getElem?_range h, List.getElem?_eq_getElem h, Option.map_some, List.getD_eq_getElem?_getD, List.getElem?_eq_getElem h]; rfl
        · rw [List.getElem?_eq_none (by rw [List.length_range]; omega), List.getElem?_eq_none (by omega)]; rfl
      rw [er] at t5
      exact q (init.map wordsOf) (by rw [pe, if_pos ⟨el, all⟩]) v H5 (g3.trans e5) ⟨la, ya, ev, g3.free hla, h5, t5⟩
theorem okY_ReadT (T : Top K mg) (TB : Tabs T base) {y : Addr × Obj} : RY.FnY y P w K mg base (RY.CXy y.1 P w) 4 T.f_ReadT T.fd_ReadT ["text"] (spRead12 K T.ta_IsName) := by
  have YRowOf := okY_RowOf (P := P) (w := w) (base := base) (y := y) T TB
  refine RY.okY T.F_ReadT scReadT (fun vs H Q E h => ?_) (fun cdv A outer s H vs Q E hz hr h => ?_)
  · obtain ⟨v, rfl, hT, hv⟩ := h
    rfl
  · obtain ⟨v, rfl, hT, hv⟩ := h
    refine ⟨_, (pss_cons (ps_if (pt_not (pt_val (pe_callB (r := rIsi K) call_isi (by rfl) T.m_isinstance (by decide +kernel) (pa_cons (pv 0) (pa_cons (pe_bltn (v := .ty "str") (by rfl) T.m_str (by decide +kernel) rfl) pa_nil)))))
      (pss_one (RY.raiseY hz (List.mem_singleton.mpr rfl) (RY.tk_of rfl rfl rfl rfl) (L2N.pmk_own PySem.F.excBase_ValueError T.xx_BadText.1 T.gc_BadText T.xx_BadText.2.1 (raises_own T.xx_BadText.2.2.1 T.xx_BadText.2.2.2) (by exact rfl))))
      pss_nil)
      (pss_cons (ps_set (i := 1) scReadT.nd rfl (Or.inl rfl) (pe_bm PySem.F.plainAttrs_str PySem.F.slot_str_split PySem.F.type_str_split mt_split (pv 0) (pa_cons (pe_glob (v := .str (Str.ofString "\n")) rfl T.c_LINE_END ⟨_, rfl⟩) pa_nil)))
      (pss_cons (ps_if (pt_cmpR op_ne (pe_bm0 PySem.F.plainAttrs_list PySem.F.slot_list_pop PySem.F.type_list_pop mt_pop (pv 1)) pe_str (nomark _))
      (pss_one (RY.raiseY hz (List.mem_singleton.mpr rfl) (RY.tk_of rfl rfl rfl rfl) (L2N.pmk_own PySem.F.excBase_ValueError T.xx_BadText.1 T.gc_BadText T.xx_BadText.2.1 (raises_own T.xx_BadText.2.2.1 T.xx_BadText.2.2.2) (by exact rfl))))
      pss_nil)
      (pss_one (ps_ret (RY.pe_lcX (C := RY.Cy y.1) (own := [("line", 2)]) RY.Cy.steady scReadT.nd rfl rfl (RY.ends_hot hz (List.mem_singleton.mpr rfl)) (RY.tk_of rfl rfl rfl rfl) (pv 1) (blkOk_by (own := [("line", 2)]) (N := nmReadT) (sc := defScope sReadT) (by decide +kernel)) (fun _ _ _ _ _ _ _ => (pg_name (i := 2) scReadT.nd rfl (Or.inl rfl))) (fun _ _ _ _ _ _ Eb hx1 => (RY.pe_callY (E := fun _ => Eb) YRowOf hr hz (List.mem_singleton.mpr rfl) (by rfl) T.g_RowOf T.F_RowOf.kp T.B_RowOf hx1 (pa_cons (pv 2) pa_nil))))))))), ?_⟩
    refine slots (start_ReadT _) ?_
    rcases hv with ⟨hn, qe⟩ | ⟨z, rfl, lz, qe, q⟩
    · exact B_when (b := true) (Ts.is (s_not (s_B (v_nostr (v_slot rfl) hn))) rfl) (fun _ H1 e1 => qe H1 e1) fun hb => nomatch hb
    have en : ("\n" : Str).length = 1 := rfl
    refine B_when (b := false) (Ts.is (s_not (s_B (v_issS (v_slot rfl)))) rfl) (fun hb => nomatch hb) fun _ H1 e1 => ?_
    refine B_setL (l_split (v_slot rfl) v_con (by decide +kernel) (by omega)) fun p H2 hp e2 h2 => ?_
    walk_at "n"
    have e12 := e1.trans e2
    obtain ⟨init, last, ews⟩ : ∃ init last, Txt.split z (Str.ofString "\n") = init ++ [last] := by
      rcases List.eq_nil_or_concat (Txt.split z (Str.ofString "\n")) with h | ⟨i, l, h⟩
      · have := PyProof.Rows.split_pos z (Str.ofString "\n")
        rw [h] at this
        cases this
      · exact ⟨i, l, by rw [h, List.concat_eq_append]⟩
    have short : ∀ s ∈ init ++ [last], s.length ≤ 10000 := fun s hs => Nat.le_trans (PyProof.Rows.part_short (by rw [ews]; exact hs)) lz
    have many : (init ++ [last]).length ≤ z.length + 2 := by
      rw [← ews]
      exact (PyProof.Rows.fact_split z (Str.ofString "\n")).2
    have pe : parse z = if last = "" ∧ init.all lineOk = true then some (init.map wordsOf) else none := by
      unfold parse
      rw [show Txt.split z "\n" = init ++ [last] from ews, List.getLast?_append, List.dropLast_concat]
      simp
    rw [ews] at h2
    have ll : ((init ++ [last]).map V.str).length = init.length + 1 := by rw [List.length_map, List.length_append]; rfl
    rw [List.length_append] at many
    have ln : init.length ≤ 10002 := by simp only [List.length_singleton] at many; omega
    refine B_whenPop (a := last) (v_slot rfl) h2 (by rw [ll, Nat.add_sub_cancel, List.map_append, List.getElem?_append_right (by rw [List.length_map]; exact Nat.le_refl _), List.length_map, Nat.sub_self]; rfl) (fun n H3 e3 => ?_) fun el H3 e3 => ?_
    · refine qe (by rw [pe, if_neg fun h => n h.1]) _ ((e12.trans e3).chg (e1.free hp))
    rw [List.map_append, show ([last] : List Str).map V.str = [V.str last] from rfl, List.dropLast_concat]
    have np := e1.free hp
    have g3 := (e12.trans e3).chg np (o := .lst (init.map V.str))
    have h3 : (upd H3 p (.lst (init.map V.str))) p = some (.lst (init.map V.str)) := upd_same
    generalize upd H3 p (.lst (init.map V.str)) = H4 at g3 h3 ⊢
    refine S_retR (R := fun v H1 => (∀ m, m < (init.map V.str).length → lineOk (init.getD m "") = true) ∧ NewRows H4 ((List.range (init.map V.str).length).map fun m => wordsOf (init.getD m "")) v H1) (r_cmpK (g := JRow.vs) (fun m => lineOk (init.getD m "") = true) (fun m => wordsOf (init.getD m "")) (v_slot rfl) (SqL.of h3) (by rw [List.length_map]; omega) (fun _ => rfl) fun m x H5 e5 hx => ?_) fun v H5 e5 ⟨oks, la, ya, ev, hla, h5, t5⟩ => ?_
    · rw [List.getElem?_map] at hx
      cases er : init[m]? with
      | none => rw [er] at hx; cases hx
      | some r =>
        rw [er] at hx
        obtain rfl := Option.some.inj hx
        have eg : init.getD m "" = r := by rw [List.getD_eq_getElem?_getD, er]; rfl
        rw [eg]
        have mr := List.mem_of_getElem? er
        exact fun H6 Q6 g6 k6 => (show Ag (tCons (tVar 2) tNil) _ _ _ from g_cons (v_slot rfl) g_nil) H6 _ g6 fun H7 g7 => ⟨r, rfl, (g3.trans ((e5.trans g6).trans g7)).tab hT, short r (List.mem_append_left _ mr), fun lo v8 H8 g8 h8 => k6 v8 H8 (g7.trans g8) ⟨lo, h8⟩, fun lo H8 g8 => qe (by
          rw [pe, if_neg fun h => by
            have := List.all_eq_true.mp h.2 r mr
            rw [lo] at this
            cases this]) H8 (g3.trans (((e5.trans g6).trans g7).trans g8))⟩
    · have all : init.all lineOk = true := List.all_eq_true.mpr fun r mr => by
        obtain ⟨m, hm, rfl⟩ := List.mem_iff_getElem.mp mr
        have := oks m (by rw [List.length_map]; exact hm)
        rwa [List.getD_eq_getElem?_getD, List.getElem?_eq_getElem hm] at this
      have er : (List.range (init.map V.str).length).map (fun m => wordsOf (init.getD m "")) = init.map wordsOf := by
        rw [List.length_map]
        refine List.ext_getElem? fun i => ?_
        rw [List.getElem?_map, List.getElem?_map]
        by_cases h : i < init.length
        · rw [List.getElem?_range h, List.getElem?_eq_getElem h, Option.map_some, List.getD_eq_getElem?_getD, List.getElem?_eq_getElem h]; rfl
        · rw [List.getElem?_eq_none (by rw [List.length_range]; omega), List.getElem?_eq_none (by omega)]; rfl
      rw [er] at t5
      exact q (init.map wordsOf) (by rw [pe, if_pos ⟨el, all⟩]) v H5 (g3.trans e5) ⟨la, ya, ev, g3.free hla, h5, t5⟩

--CUT
theorem okD_Kinds (T : Top K mg) : RY.FnE2 P w K mg base CX0 1 T.f_Kinds T.fd_Kinds ["_law_e"] (spKinds K) := by
  refine RY.okD T.F_Kinds scKinds (fun a c d vs H Q E h => ?_) (fun cdv A outer s H vs Q E z y c d hz hc hr h => ?_)
  · obtain ⟨x, rfl, hx, hcx, hdx, q⟩ := h
    rfl
  · obtain ⟨x, rfl, hx, hcx, hdx, q⟩ := h
    refine ⟨_, (pss_cons (ps_set (i := 1) scKinds.nd rfl (Or.inl rfl) (pe_lst pa_nil))
      (pss_cons (ps_set (i := 2) scKinds.nd rfl (Or.inl rfl) (pe_lst (pa_cons (pe_callB (show CallR _ (.builtin "isinstance") (RX.rIsP K z.1 c d) from RX.call_isP List.mem_cons_self hc (RY.fields_of2 hz)) (by rfl) T.m_isinstance (by decide +kernel) (pa_cons (pv 0) (pa_cons (pe_glob (v := .ref (He.ga K "BadName")) rfl T.gc_BadName rfl) pa_nil))) (pa_cons (pe_callB (show CallR _ (.builtin "isinstance") (RX.rIsP K z.1 c d) from RX.call_isP List.mem_cons_self hc (RY.fields_of2 hz)) (by rfl) T.m_isinstance (by decide +kernel) (pa_cons (pv 0) (pa_cons (pe_glob (v := .ref (He.ga K "BadWish")) rfl T.gc_BadWish rfl) pa_nil))) (pa_cons (pe_callB (show CallR _ (.builtin "isinstance") (RX.rIsP K z.1 c d) from RX.call_isP List.mem_cons_self hc (RY.fields_of2 hz)) (by rfl) T.m_isinstance (by decide +kernel) (pa_cons (pv 0) (pa_cons (pe_glob (v := .ref (He.ga K "Known")) rfl T.gc_Known rfl) pa_nil))) (pa_cons (pe_callB (show CallR _ (.builtin "isinstance") (RX.rIsP K z.1 c d) from RX.call_isP List.mem_cons_self hc (RY.fields_of2 hz)) (by rfl) T.m_isinstance (by decide +kernel) (pa_cons (pv 0) (pa_cons (pe_glob (v := .ref (He.ga K "Stranger")) rfl T.gc_Stranger rfl) pa_nil))) pa_nil))))))
      (pss_cons (ps_set (i := 2) scKinds.nd rfl (Or.inl rfl) (pe_op op_cat (pv 2) (pe_lst (pa_cons (pe_callB (show CallR _ (.builtin "isinstance") (RX.rIsP K z.1 c d) from RX.call_isP List.mem_cons_self hc (RY.fields_of2 hz)) (by rfl) T.m_isinstance (by decide +kernel) (pa_cons (pv 0) (pa_cons (pe_glob (v := .ref (He.ga K "Outside")) rfl T.gc_Outside rfl) pa_nil))) (pa_cons (pe_callB (show CallR _ (.builtin "isinstance") (RX.rIsP K z.1 c d) from RX.call_isP List.mem_cons_self hc (RY.fields_of2 hz)) (by rfl) T.m_isinstance (by decide +kernel) (pa_cons (pv 0) (pa_cons (pe_glob (v := .ref (He.ga K "Inside")) rfl T.gc_Inside rfl) pa_nil))) (pa_cons (pe_callB (show CallR _ (.builtin "isinstance") (RX.rIsP K z.1 c d) from RX.call_isP List.mem_cons_self hc (RY.fields_of2 hz)) (by rfl) T.m_isinstance (by decide +kernel) (pa_cons (pv 0) (pa_cons (pe_glob (v := .ref (He.ga K "Reads")) rfl T.gc_Reads rfl) pa_nil))) (pa_cons (pe_callB (show CallR _ (.builtin "isinstance") (RX.rIsP K z.1 c d) from RX.call_isP List.mem_cons_self hc (RY.fields_of2 hz)) (by rfl) T.m_isinstance (by decide +kernel) (pa_cons (pv 0) (pa_cons (pe_glob (v := .ref (He.ga K "Writes")) rfl T.gc_Writes rfl) pa_nil))) pa_nil)))))))
      (pss_cons (ps_set (i := 2) scKinds.nd rfl (Or.inl rfl) (pe_op op_cat (pv 2) (pe_lst (pa_cons (pe_callB (show CallR _ (.builtin "isinstance") (RX.rIsP K z.1 c d) from RX.call_isP List.mem_cons_self hc (RY.fields_of2 hz)) (by rfl) T.m_isinstance (by decide +kernel) (pa_cons (pv 0) (pa_cons (pe_glob (v := .ref (He.ga K "Asked")) rfl T.gc_Asked rfl) pa_nil))) (pa_cons (pe_callB (show CallR _ (.builtin "isinstance") (RX.rIsP K z.1 c d) from RX.call_isP List.mem_cons_self hc (RY.fields_of2 hz)) (by rfl) T.m_isinstance (by decide +kernel) (pa_cons (pv 0) (pa_cons (pe_glob (v := .ref (He.ga K "BadText")) rfl T.gc_BadText rfl) pa_nil))) (pa_cons (pe_callB (show CallR _ (.builtin "isinstance") (RX.rIsP K z.1 c d) from RX.call_isP List.mem_cons_self hc (RY.fields_of2 hz)) (by rfl) T.m_isinstance (by decide +kernel) (pa_cons (pv 0) (pa_cons (pe_glob (v := .ref (He.ga K "BadJournal")) rfl T.gc_BadJournal rfl) pa_nil))) pa_nil))))))
      (pss_cons (ps_expr (pe_bm PySem.F.plainAttrs_list PySem.F.slot_list_append PySem.F.type_list_append mt_append (pv 2) (pa_cons (pe_callB (show CallR _ (.builtin "isinstance") (RX.rIsP K z.1 c d) from RX.call_isP List.mem_cons_self hc (RY.fields_of2 hz)) (by rfl) T.m_isinstance (by decide +kernel) (pa_cons (pv 0) (pa_cons (pe_glob (v := .ref (He.ga K "BadNumber")) rfl T.gc_BadNumber rfl) pa_nil))) pa_nil)))
      (pss_cons (RY.for2 (passes_of rfl) ⟨_, _, RY.deep hz rfl, List.mem_cons_self, List.mem_cons_of_mem _ List.mem_cons_self⟩ (by rfl) T.m_range (pa_cons (pe_callB (r := fLen K) call_len_seq (by rfl) T.m_len PySem.boot_len (pa_cons (pv 2) pa_nil)) pa_nil) (pg_name (i := 3) scKinds.nd rfl (Or.inl rfl))
      (pss_one (ps_if (pt_val (pe_ix (r := rIxL K) ix_list (pv 2) (pv 3) (fun _ _ => rfl)))
      (pss_one (ps_expr (pe_bm PySem.F.plainAttrs_list PySem.F.slot_list_append PySem.F.type_list_append mt_append (pv 1) (pa_cons (pv 3) pa_nil))))
      pss_nil)))
      (pss_one (ps_ret (pv 1))))))))), ?_⟩
    refine slots (start_Kinds _) ?_
    subst hcx hdx
    have ex := T.ex
    have mem : ∀ k, k < 12 → kindNames.getD k "" ∈ kindNames := fun k hk => by
      rw [List.getD_eq_getElem?_getD, List.getElem?_eq_getElem (show k < kindNames.length from hk)]
      exact List.getElem_mem _
    have is : ∀ {H1 : Hp} {σ : L2.St} (y : Str), y ∈ kindNames → σ[0]? = some (some (.ref z.1)) → Vl (tCB (RX.rIsP K z.1 (.ref (He.ga K x)) none) (tCons (tVar 0) (tCons (tC (.ref (He.ga K y))) tNil))) σ H1 (.bl (isK x y)) := fun y hy h0 => v_isP ex hx hy (v_slot h0)
    refine B_setR (Ls.toN (l_lst g_nil (show 0 ≤ 100000 by decide))) fun v H1 e1 ⟨pf, ev, npf, h1⟩ => ?_
    subst ev
    walk_at "n"
    refine B_setR (Ls.toN (l_lst (g_cons (is "BadName" (by decide +kernel) rfl) (g_cons (is "BadWish" (by decide +kernel) rfl) (g_cons (is "Known" (by decide +kernel) rfl) (g_cons (is "Stranger" (by decide +kernel) rfl) g_nil)))) (show 4 ≤ 100000 by decide))) fun v H2 e2 ⟨p2, ev, np2, h2⟩ => ?_
    subst ev
    walk_at "n"
    refine B_setR (r_cat (R := fun _ _ => True) (v_slot rfl) h2 (l_lst (g_cons (is "Outside" (by decide +kernel) rfl) (g_cons (is "Inside" (by decide +kernel) rfl) (g_cons (is "Reads" (by decide +kernel) rfl) (g_cons (is "Writes" (by decide +kernel) rfl) g_nil)))) (show 4 ≤ 100000 by decide)) (show 4 + 4 ≤ 100000 by decide)) fun v H3 e3 ⟨p3, ev, np3, h3⟩ => ?_
    subst ev
    walk_at "n"
    refine B_setR (r_cat (R := fun _ _ => True) (v_slot rfl) h3 (l_lst (g_cons (is "Asked" (by decide +kernel) rfl) (g_cons (is "BadText" (by decide +kernel) rfl) (g_cons (is "BadJournal" (by decide +kernel) rfl) g_nil))) (show 3 ≤ 100000 by decide)) (show 8 + 3 ≤ 100000 by decide)) fun v H4 e4 ⟨p4, ev, np4, h4⟩ => ?_
    subst ev
    walk_at "n"
    refine B_app h4 (v_slot rfl) (is "BadNumber" (by decide +kernel) rfl) (show 11 < 100000 by decide) fun H5 e5 => ?_
    have marks : ([V.bl (isK x "BadName"), V.bl (isK x "BadWish"), V.bl (isK x "Known"), V.bl (isK x "Stranger")] ++ [V.bl (isK x "Outside"), V.bl (isK x "Inside"), V.bl (isK x "Reads"), V.bl (isK x "Writes")] ++ [V.bl (isK x "Asked"), V.bl (isK x "BadText"), V.bl (isK x "BadJournal")] ++ [V.bl (isK x "BadNumber")]) = (List.range 12).map fun k => V.bl (isK x (kindNames.getD k "")) := rfl
    rw [marks]
    have g4 : Gr H H4 := (((e1.trans e2).trans e3).trans e4)
    have np4' : H p4 = none := ((e1.trans e2).trans e3).free np4
    have g6 := (g4.trans e5).chg np4' (o := .lst ((List.range 12).map fun k => V.bl (isK x (kindNames.getD k ""))))
    have hf : H5 pf = some (.lst []) := (((e2.trans e3).trans e4).trans e5).lst h1
    have nfp : pf ≠ p4 := fun w => by
      have hh : H3 pf = some (.lst []) := (e2.trans e3).lst h1
      rw [w, np4] at hh
      cases hh
    have hf6 : (upd H5 p4 (.lst ((List.range 12).map fun k => V.bl (isK x (kindNames.getD k ""))))) pf = some (.lst []) := (upd_ne nfp).trans hf
    have h46 : (upd H5 p4 (.lst ((List.range 12).map fun k => V.bl (isK x (kindNames.getD k ""))))) p4 = some (.lst ((List.range 12).map fun k => V.bl (isK x (kindNames.getD k "")))) := upd_same
    generalize upd H5 p4 (.lst ((List.range 12).map fun k => V.bl (isK x (kindNames.getD k "")))) = H6 at g6 hf6 h46 ⊢
    refine B_for1 (n := 12) (g_cons (v_len (v_slot rfl) (SqL.of h46)) g_nil) (by decide) (fun m σ' H' => ∃ y3, σ' = [some (.ref z.1), some (.ref pf), some (.ref p4), y3] ∧ Gr H H' ∧ H' pf = some (.lst ((((List.range m).filter fun k => isK x (kindNames.getD k "")).map fun k : Nat => (k : Int)).map V.int)) ∧ H' p4 = some (.lst ((List.range 12).map fun k => V.bl (isK x (kindNames.getD k ""))))) (fun H7 g => ⟨_, rfl, g6.trans g, g.lst hf6, g.lst h46⟩) ?hs fun σ' H7 ⟨y3, ey, g, h7, _⟩ => by
      rw [ey]
      exact S_ret (v_slot rfl) fun H8 e8 => q pf H8 npf (g.trans e8) (e8.lst h7)
    rintro m σ' H7 hm ⟨y3, rfl, g, h7, h8⟩
    walk_at "n"
    have hm' : m < 12 := by omega
    refine S_when (b := isK x (kindNames.getD m "")) (s_B (v_op (v_slot rfl) (v_slot rfl) (bi_ixL (SqL.of h8) (atI_nat (by rw [List.getElem?_map, List.getElem?_range hm']; rfl))))) (fun hb H8 e8 => ?_) fun hb H8 e8 => ?_
    · refine S_app (e8.lst h7) (v_slot rfl) (v_slot rfl) (by rw [List.length_map, List.length_map]; have := List.length_filter_le (fun k => isK x (kindNames.getD k "")) (List.range m); rw [List.length_range] at this; omega) fun H9 e9 => ?_
      refine ⟨_, rfl, ((g.trans e8).trans e9).chg npf, ?_, (upd_ne nfp.symm).trans ((e8.trans e9).lst h8)⟩
      rw [upd_same, List.range_succ, List.filter_append, List.map_append, List.map_append, List.filter_cons, if_pos hb]
      rfl
    · refine ⟨_, rfl, g.trans e8, ?_, e8.lst h8⟩
      rw [List.range_succ, List.filter_append, List.filter_cons, if_neg (by rw [hb]; exact Bool.false_ne_true), List.filter_nil, List.append_nil]
      exact e8.lst h7

def spRefused12 (K : PySem.W.Frag) (P : Addr) : Sp := fun vs H Q _ => ∃ v : V, vs = [v] ∧ GxR.TabG H P ∧ (NoStr K v H ∨ ∃ z : Str, v = .str z ∧ z.length ≤ 10000 ∧ parse z = none) ∧ RV (.bl true) H Q
section
variable {K : PySem.W.Frag} {σ : L2.St} {H : Hp} {t1 t2 : TE} {a1 : TA} {vs xs ys : List V} {r : R2} {z : V}
theorem bi_is {r : R2} {x y z u : V} {H : Hp} (h : Bi r x y H z) (e : z = u) : Bi r x y H u := e ▸ h
theorem v_opLL (a : Ls t1 σ H xs) (b : Ls t2 σ H ys) (o : ∀ p1 p2 H1, H1 p1 = some (.lst xs) → H1 p2 = some (.lst ys) → Gr H H1 → Bi r (.ref p1) (.ref p2) H1 z) : Vl (tOp r t1 t2) σ H z := fun H1 Q g q =>
  a H1 _ g fun p H2 _ g2 e2 => b H2 _ (g.trans g2) fun p2 H3 _ g3 e3 => o p p2 H3 (g3.lst e2) e3 ((g.trans g2).trans g3) H3 Q (.refl _) fun H4 g4 => q H4 ((g2.trans g3).trans g4)
theorem l_callE {a : Addr} {c : Value} {d : Option Addr} {sp : Addr → Value → Option Addr → Sp} {F : L2.St → XK} (h : Ag a1 σ H vs) (k : ∀ H1 (Q : VK), Gr H H1 → RL xs H1 Q → sp a c d vs H1 Q (F σ)) : Ls (RX.tCallE a c d sp F a1) σ H xs := fun H1 Q g q =>
  h H1 _ g fun H2 g2 => k H2 Q (g.trans g2) fun p H3 hp g3 e => q p H3 (g2.free hp) (g2.trans g3) e
theorem v_isVE {a : Addr} {x : Str} (h : Vl t1 σ H (.ref a)) (ex : exB K = true) (hx : x ∈ raised) : Vl (tCB (RX.rIsP K a (.ref (He.ga K x)) none) (tCons t1 (tCons (tC (.ty "ValueError")) tNil))) σ H (.bl true) :=
  v_blt (g_cons h (g_cons v_con g_nil)) fun H1 Q _ q => ⟨He.ga K x, .ty "ValueError", .type "ValueError", true, rfl, rfl, exB_exc ex hx, rfl, fun _ e => e, by
    have m : ∀ x ∈ raised, (x, ("ValueError" : Str), true) ∈ kinds := by decide +kernel
    have k := exB_kit ex (m x hx)
    unfold clsV at k
    rw [if_pos rfl] at k
    exact k, q H1 (.refl _)⟩

theorem readB {P : Addr} {v : V} {F : L2.St → XK} {Q : VK} (h : Vl t1 σ H v) (hT : GxR.TabG H P) (b : NoStr K v H ∨ ∃ z : Str, v = .str z ∧ z.length ≤ 10000 ∧ parse z = none) (k : ∀ H1, Gr H H1 → F σ (.ref (He.ga K "BadText")) none H1) : tCallS (spRead12 K P) F (tCons t1 tNil) σ H Q :=
  h H _ (.refl _) fun H1 g1 => ⟨v, rfl, g1.tab hT, b.elim (fun n => .inl ⟨n.mono g1, fun H2 g2 => k H2 (g1.trans g2)⟩) fun ⟨z, ev, lz, pz⟩ => .inr ⟨z, ev, lz, fun _ H2 g2 => k H2 (g1.trans g2), fun l e => by rw [pz] at e; cases e⟩⟩
end
theorem ok_Refused (T : Top K mg) (TB : Tabs T base) : FnOk P w K mg base CX0 5 T.f_Refused T.fd_Refused ["_law_thing"] (spRefused12 K T.ta_IsName) := by
  have GReadT := ok_ReadT (P := P) (w := w) (base := base) T TB
  have DKinds := okD_Kinds (P := P) (w := w) (base := base) T
  have YReadT := fun y => okY_ReadT (P := P) (w := w) (base := base) (y := y) T TB
  refine T.F_Refused.ok scRefused (fun vs H Q E h => ?_) (fun cdv A outer s H vs Q E hr h => ?_)
  · obtain ⟨v1, rfl, hT, b, q⟩ := h
    rfl
  · obtain ⟨v1, rfl, hT, b, q⟩ := h
    refine ⟨_, (pss_cons (L2N.ps_try_many rfl rfl RX.takesN (fun W pn xe tk0 po0 => (pss_one (ps_expr (pe_callS GReadT hr (by rfl) T.g_ReadT T.F_ReadT.kp T.B_ReadT (fun σ => L2N.passAt tk0 σ) (pa_cons (pv 0) pa_nil))))) (.cons ⟨rfl, by decide, .inl T.gc_BadText⟩ (fun a oe cls d pn hz hf => (pss_one (RY.try_asY (X := (Cx.suite (cxOf CX0 P w K mg base nmRefused "_law_refused" (defScope sRefused) T.f_Refused cdv A outer s H E).nox a ((a, oe) :: pn))) (x := "RoomError") (z := (a, oe)) (K := K) (i := 1) rfl rfl rfl scRefused.nd rfl rfl ⟨rfl, by decide, .inl T.gc_RoomError⟩ List.mem_cons_self (fun W pn xe hy tkY poY => (pss_one (ps_expr (RY.pe_callY (YReadT (a, oe)) (RX.roomH_suite hr) (RX.hot_suite hz hf) hy (by rfl) T.g_ReadT T.F_ReadT.kp T.B_ReadT (fun σ => RY.passAt tkY σ) (pa_cons (pv 0) pa_nil))))) (fun a2 oe2 cls2 d2 pn2 hz2 hf2 ne2 hy2 => (pss_one (ps_ret (pe_and (pe_cmpR (r := rEqD K) (op_eqD hr.units) (RY.pe_callD (E := fun _ => E0) DKinds (RY.roomH2 (hr.mono (by decide))) (RY.hot2_suite hz hf hz2 hf2 ne2) List.mem_cons_self (List.mem_cons_of_mem _ hy2) hz2.1 (by rfl) T.g_Kinds T.F_Kinds.kp T.B_Kinds RX.passA0 (pa_cons (pv 1) pa_nil)) (pe_lst (pa_cons pe_int pa_nil)) (nomark _)) (pe_one (pe_callB (show CallR _ (.builtin "isinstance") (RX.rIsP K a2 cls2 d2) from RX.call_isP List.mem_cons_self hz2.1 hf2) (by rfl) T.m_isinstance (by decide +kernel) (pa_cons (pv 1) (pa_cons (pe_bltn (v := .ty "ValueError") (by rfl) T.m_ValueError (by decide +kernel) rfl) pa_nil))))))))))) .nil))
      (pss_one (ps_ret pe_bl))), ?_⟩
    refine slots (start_Refused _) ?_
    have ex := T.ex
    dsimp only [tSeq, tDrop]
    refine readB (v_slot rfl) hT b fun H1 g1 => ⟨true, T.e_BadText_BadText, fun _ a ha => ?_, fun z => nomatch z⟩
    dsimp only [tSeq, tDrop]
    refine readB (v_slot rfl) (g1.tab hT) (b.imp (fun n => n.mono g1) id) fun H2 g2 => ⟨T.e_BadText_RoomError, fun a2 ha2 => ?_⟩
    have m : ("BadText" : Str) ∈ raised := by decide +kernel
    have k9 : kindsOf "BadText" = [9] := by decide +kernel
    refine S_ret (v_and (b := true) (v_opLL (xs := [.int 9]) (ys := [.int 9]) (l_callE (g_cons (v_slot rfl) g_nil) fun H3 Q3 g3 k => ⟨"BadText", rfl, m, rfl, rfl, by rw [k9]; exact k⟩) (l_lst (g_cons v_con g_nil) (show 1 ≤ 100000 by decide))
      fun p1 p2 H3 e1 e2 g3 => bi_is (bi_eqD (.lst (SqL.of e1) (.cons (.int 9) .nil)) (.lst (SqL.of e2) (.cons (.int 9) .nil)) (by decide +kernel) (by decide +kernel)) (by decide +kernel)) fun _ => v_isVE (v_slot rfl) ex m) fun H3 g3 => q H3 ((g1.trans g2).trans g3)

--CUT
theorem ok_Cell (T : Top K mg) (TB : Tabs T base) : FnOk P w K mg base CX0 1 T.f_Cell T.fd_Cell ["_law_script", "_law_k"] (spCell K) := by
  refine T.F_Cell.ok scCell (fun vs H Q E h => ?_) (fun cdv A outer s H vs Q E hr h => ?_)
  · obtain ⟨a, ns, k, rfl, hS, q⟩ := h
    rfl
  · obtain ⟨a, ns, k, rfl, hS, q⟩ := h
    refine ⟨_, (pss_cons (ps_if (pt_cmpR op_lt (pv 1) (pe_callB call_len_seq (by rfl) T.m_len PySem.boot_len (pa_cons (pv 0) pa_nil)) (nomark _))
      (pss_one (ps_ret (pe_ix ix_list (pv 0) (pv 1) (fun _ _ => rfl))))
      pss_nil)
      (pss_one (ps_ret pe_int))), ?_⟩
    refine slots (start_Cell _ _) ?_
    refine' B_when (b := decide ((k : Int) < (ns.map V.int).length)) ?h ?k1 ?k2
    (case h => walk_at "et")
    all_goals intro hb H1 e1
    · have hk' : k < ns.length := by
        have := of_decide_eq_true hb
        rw [List.length_map] at this
        omega
      have g : (ns.map V.int)[k]? = some (.int (cellAt ns k)) := by
        rw [List.getElem?_map, List.getElem?_eq_getElem hk']
        unfold cellAt
        rw [List.getD_eq_getElem?_getD, List.getElem?_eq_getElem hk']
        rfl
      exact S_ret (v_op (v_slot rfl) (v_slot rfl) (bi_ixL (e1.sl hS) (atI_nat g))) fun H2 e2 => q H2 (e1.trans e2)
    · refine S_ret v_con fun H2 e2 => ?_
      have hk : ¬ k < ns.length := by
        have := of_decide_eq_false hb
        rw [List.length_map] at this
        omega
      have g : cellAt ns k = 0 := by
        unfold cellAt
        rw [List.getD_eq_getElem?_getD, List.getElem?_eq_none (by omega)]
        rfl
      rw [g] at q
      exact q H2 (e1.trans e2)
-- no Num here
theorem ok_People (T : Top K mg) (TB : Tabs T base) : FnOk P w K mg base CX0 1 T.f_People T.fd_People ["_law_cell", "_law_many"] (spPeople) := by
  refine T.F_People.ok scPeople (fun vs H Q E h => ?_) (fun cdv A outer s H vs Q E hr h => ?_)
  · obtain ⟨c, n, rfl, hn, q⟩ := h
    rfl
  · obtain ⟨c, n, rfl, hn, q⟩ := h
    refine ⟨_, (pss_cons (ps_set (i := 2) scPeople.nd rfl (Or.inr rfl) pe_str)
      (pss_cons (ps_set (i := 3) scPeople.nd rfl (Or.inr rfl) pe_str)
      (pss_cons (ps_set (i := 4) scPeople.nd rfl (Or.inl rfl) (pe_op op_fdivN (pv 0) pe_int))
      (pss_cons (ps_for PassesOwn.never rfl (pi_range1 (by rfl) T.m_range (pa_cons pe_int pa_nil)) (pg_name (i := 5) scPeople.nd rfl (Or.inl rfl))
      (pss_cons (ps_set (i := 3) scPeople.nd rfl (Or.inr rfl) (pe_op op_add_str (pv 3) (pe_ix ix_str (pv 2) (pe_op op_modN (pv 4) pe_int) (fun _ _ => rfl))))
      (pss_one (ps_set (i := 4) scPeople.nd rfl (Or.inl rfl) (pe_op op_fdivN (pv 4) pe_int)))))
      (pss_cons (ps_set (i := 6) scPeople.nd rfl (Or.inl rfl) (pe_op op_modN (pv 0) pe_int))
      (pss_cons (ps_if (PW.pt (pw_and (pt_cmpR op_eq (pv 6) pe_int (nomark _)) (pw_and1 (pt_cmpR op_lt (pv 1) pe_int (nomark _)))))
      (pss_one (ps_ret (pe_lc (own := [("_law_k", 5)]) rfl scPeople.nd (pi_range1 (by rfl) T.m_range (pa_cons (pv 1) pa_nil)) (blkOk_by (own := [("_law_k", 5)]) (N := nmPeople) (sc := defScope sPeople) (by decide +kernel)) (fun _ _ _ _ _ => (pg_name (i := 5) scPeople.nd rfl (Or.inl rfl))) (fun _ _ _ _ _ => pts_nil) (fun _ _ _ _ _ => (pe_slice sl_str (pv 3) po_none (po_some (pe_op op_add (pv 5) pe_int)))))))
      pss_nil)
      (pss_cons (ps_if (PW.pt (pw_and (pt_cmpR op_eq (pv 6) pe_int (nomark _)) (pw_and1 (pt_cmpR op_lt (pv 1) pe_int (nomark _)))))
      (pss_one (ps_ret (pe_lc (own := [("_law_k", 5)]) rfl scPeople.nd (pi_range1 (by rfl) T.m_range (pa_cons (pv 1) pa_nil)) (blkOk_by (own := [("_law_k", 5)]) (N := nmPeople) (sc := defScope sPeople) (by decide +kernel)) (fun _ _ _ _ _ => (pg_name (i := 5) scPeople.nd rfl (Or.inl rfl))) (fun _ _ _ _ _ => pts_nil) (fun _ _ _ _ _ => (pe_slice sl_str (pv 3) (po_some (pe_op op_sub pe_int (pv 5))) po_none)))))
      pss_nil)
      (pss_cons (ps_set (i := 3) scPeople.nd rfl (Or.inr rfl) (pe_slice sl_str (pv 3) po_none (po_some (pe_op op_modN (pe_op op_fdivN (pv 0) pe_int) pe_int))))
      (pss_cons (ps_if (PW.pt (pw_and (pt_cmpR op_lt (pv 6) pe_int (nomark _)) (pw_and1 (pt_cmpR op_lt (pv 1) pe_int (nomark _)))))
      (pss_cons (ps_set (i := 7) scPeople.nd rfl (Or.inr rfl) (pe_slice sl_str (pv 3) po_none (po_some (pe_op op_modN (pe_op op_fdivN (pv 0) pe_int) (pe_op op_add (pe_callB call_len_str (by rfl) T.m_len PySem.boot_len (pa_cons (pv 3) pa_nil)) pe_int)))))
      (pss_cons (ps_set (i := 8) scPeople.nd rfl (Or.inr rfl) (pe_slice sl_str (pv 3) (po_some (pe_callB call_len_str (by rfl) T.m_len PySem.boot_len (pa_cons (pv 7) pa_nil))) po_none))
      (pss_one (ps_ret (pe_lc (own := [("_law_k", 5)]) rfl scPeople.nd (pi_range1 (by rfl) T.m_range (pa_cons (pv 1) pa_nil)) (blkOk_by (own := [("_law_k", 5)]) (N := nmPeople) (sc := defScope sPeople) (by decide +kernel)) (fun _ _ _ _ _ => (pg_name (i := 5) scPeople.nd rfl (Or.inl rfl))) (fun _ _ _ _ _ => pts_nil) (fun _ _ _ _ _ => (pe_op op_add_str (pe_op op_add_str (pv 7) (pe_ix ix_str (pv 2) (pe_op op_modN (pe_op op_add (pe_op op_fdivN (pv 0) pe_int) (pe_op op_mul pe_int (pv 5))) pe_int) (fun _ _ => rfl))) (pv 8))))))))
      pss_nil)
      (pss_cons (ps_set (i := 3) scPeople.nd rfl (Or.inr rfl) (pe_slice sl_str (pv 3) po_none (po_some (pe_op op_sub pe_int (pe_callTy call_int1 (by rfl) T.m_int (by decide +kernel) (pa_cons (pe_cmpR op_gt (pv 1) pe_int (nomark _)) pa_nil))))))
      (pss_one (ps_ret (pe_lc (own := [("_law_k", 5)]) rfl scPeople.nd (pi_range1 (by rfl) T.m_range (pa_cons (pv 1) pa_nil)) (blkOk_by (own := [("_law_k", 5)]) (N := nmPeople) (sc := defScope sPeople) (by decide +kernel)) (fun _ _ _ _ _ => (pg_name (i := 5) scPeople.nd rfl (Or.inl rfl))) (fun _ _ _ _ _ => pts_nil) (fun _ _ _ _ _ => (pe_op op_add_str (pv 3) (pe_callTy call_str_int (by rfl) T.m_str (by decide +kernel) (pa_cons (pv 5) pa_nil))))))))))))))))), ?_⟩
    refine slots (start_People _ _) ?_
    refine B_set v_con fun H1 e1 => ?_
    refine B_set v_con fun H2 e2 => ?_
    refine B_set (v_op (v_slot rfl) v_con (bi_C ⟨by decide, by decide⟩)) fun H3 e3 => ?_
    replace q := q.mono ((e1.trans e2).trans e3)
    clear e1 e2 e3 H1 H2
    -- the head, twelve signs
    refine B_for1 (n := 12) (g_cons v_con g_nil) (by decide) (fun m σ' H' => ∃ z y5 r, σ' = [some (.int c), some (.int (n : Int)), some (.str signs), some (.str z), some (.int r), y5, none, none, none] ∧ z.length = m ∧ Sg z ∧ Gr H3 H') (fun H4 g => ⟨_, _, _, rfl, rfl, fun k hk => absurd hk List.not_mem_nil, g⟩) ?hs ?hd
    case hs =>
      rintro m σ' H' hm ⟨z, y5, r, rfl, hz, asc, g⟩
      refine B_set (v_op (v_slot rfl) (v_op (v_slot rfl) (v_op (v_slot rfl) v_con (bi_C (show (36 : Int) ≠ 0 by decide))) (bi_sign (n := 36) (by decide +kernel) (by decide) (by decide))) (bi_cat (show z.length + 1 ≤ 100000 by omega))) fun H4 e4 => ?_
      refine S_set (v_op (v_slot rfl) v_con (bi_C ⟨by decide, by decide⟩)) fun H5 e5 => ?_
      exact ⟨_, _, _, rfl, by rw [cat_len, hz]; rfl, asc.cat (.one (sign_mod _)), (g.trans e4).trans e5⟩
    rintro σ' H4 ⟨z, y5, r, rfl, hz, asc, e4⟩
    have hz12 : z.length = 12 := hz
    refine B_set (v_op (v_slot rfl) v_con (bi_C (show (6 : Int) ≠ 0 by decide))) fun H5 e5 => ?_
    replace q := q.mono (e4.trans e5)
    have nat : ((n : Int)).toNat = n := by omega
    have bn : 0 ≤ (n : Int) ∧ (n : Int) ≤ 40000 := by omega
    generalize c.fmod 6 = way
    -- the first n signs, the last n signs
    refine' B_when (s_and (b := decide (way = 0)) (Ts.is (s_test (v_op (v_slot rfl) v_con (bi_eq rfl))) ?ea) (fun _ => s_test (v_op (v_slot rfl) v_con bi_0))) ?y1 ?n1
    case ea => exact decide_eq_decide.mpr ⟨V.int.inj, congrArg V.int⟩
    case y1 =>
      intro hb6 H6 e6
      have n13 : (n : Int) < 13 := of_decide_eq_true (Bool.and_eq_true_iff.mp hb6).2
      refine S_retL (l_cmp1 (fun _ => true) (fun m => .str (cutS z none (some ((m : Int) + 1)))) (g_cons (v_slot rfl) g_nil) bn (fun _ => rfl) (fun _ _ _ _ => s_yes) (fun m H7 _ _ _ => v_slS (v_slot rfl) p_no (p_int (v_op (v_slot rfl) v_con bi_0)) (by omega))) fun p H7 hp e7 h7 => ?_
      rw [nat] at h7
      refine q _ _ (e6.trans e7) (names_out (s := fun m => cutS z none (some ((m : Int) + 1))) (fun m hm => ?_) (fun _ i j hi hj e => ?_) h7)
      · have l := cut_to z (m + 1)
        rw [show (((m + 1 : Nat)) : Int) = (m : Int) + 1 from rfl, hz12] at l
        exact nameB_of (by omega) (by omega) (asc.cut _ _)
      · have l1 := cut_to z (i + 1)
        have l2 := cut_to z (j + 1)
        rw [show (((i + 1 : Nat)) : Int) = (i : Int) + 1 from rfl, hz12, show cutS z none (some ((i : Int) + 1)) = cutS z none (some ((j : Int) + 1)) from e] at l1
        rw [show (((j + 1 : Nat)) : Int) = (j : Int) + 1 from rfl, hz12] at l2
        omega
    intro _ H6 e6
    replace q := q.mono e6
    refine' B_when (s_and (b := decide (way = 1)) (Ts.is (s_test (v_op (v_slot rfl) v_con (bi_eq rfl))) ?eb) (fun _ => s_test (v_op (v_slot rfl) v_con bi_0))) ?y2 ?n2
    case eb => exact decide_eq_decide.mpr ⟨V.int.inj, congrArg V.int⟩
    case y2 =>
      intro hb7 H7 e7
      refine S_retL (l_cmp1 (fun _ => true) (fun m => .str (cutS z (some (11 - (m : Int))) none)) (g_cons (v_slot rfl) g_nil) bn (fun _ => rfl) (fun _ _ _ _ => s_yes) (fun m H8 _ _ _ => v_slS (v_slot rfl) (p_int (v_op v_con (v_slot rfl) bi_0)) p_no (by omega))) fun p H8 hp e8 h8 => ?_
      rw [nat] at h8
      refine q _ _ (e7.trans e8) (names_out (s := fun m => cutS z (some (11 - (m : Int))) none) (fun m hm => ?_) (fun hn4 i j hi hj e => ?_) h8)
      · have l := cut_from z (11 - m)
        have n13 : (n : Int) < 13 := by
          have := (Bool.and_eq_true_iff.mp hb7).2
          exact of_decide_eq_true this
        rw [show (((11 - m : Nat)) : Int) = 11 - (m : Int) by omega, hz12] at l
        exact nameB_of (by omega) (by omega) (asc.cut _ _)
      · have l1 := cut_from z (11 - i)
        have l2 := cut_from z (11 - j)
        rw [show (((11 - i : Nat)) : Int) = 11 - (i : Int) by omega, hz12, show cutS z (some (11 - (i : Int))) none = cutS z (some (11 - (j : Int))) none from e] at l1
        rw [show (((11 - j : Nat)) : Int) = 11 - (j : Int) by omega, hz12] at l2
        omega
    intro _ H7 e7
    replace q := q.mono e7
    refine B_set (v_slS (v_slot rfl) p_no (p_int (v_op (v_op (v_slot rfl) v_con (bi_C ⟨by decide, by decide⟩)) v_con (bi_C (show (12 : Int) ≠ 0 by decide)))) (by omega)) fun H8 e8 => ?_
    replace q := q.mono e8
    have b12 := fmod_in (c.fdiv 6) (m := 12) (by decide)
    have hz2 : (cutS z none (some ((c.fdiv 6).fmod 12))).length ≤ 11 := by
      have l := cut_to z ((c.fdiv 6).fmod 12).toNat
      rw [Int.toNat_of_nonneg b12.1] at l
      omega
    have asc2 := asc.cut none (some ((c.fdiv 6).fmod 12))
    generalize cutS z none (some ((c.fdiv 6).fmod 12)) = z2 at hz2 asc2 ⊢
    -- a sign drawn between
    refine' B_when (s_and (s_test (v_op (v_slot rfl) v_con bi_0)) (fun _ => s_test (v_op (v_slot rfl) v_con bi_0))) ?y3 ?n3
    case y3 =>
      intro _ H9 e9
      refine B_set (v_slS (v_slot rfl) p_no (p_int (v_op (v_op (v_slot rfl) v_con (bi_C ⟨by decide, by decide⟩)) (v_op (v_lenS (v_slot rfl) (by omega)) v_con bi_0) (bi_C (show (z2.length : Int) + 1 ≠ 0 by omega)))) (by omega)) fun H10 e10 => ?_
      have bL := fmod_in (c.fdiv 5) (m := (z2.length : Int) + 1) (by omega)
      have lL : (cutS z2 none (some ((c.fdiv 5).fmod ((z2.length : Int) + 1)))).length ≤ z2.length := cut_len _ _ _
      have aL := asc2.cut none (some ((c.fdiv 5).fmod ((z2.length : Int) + 1)))
      generalize cutS z2 none (some ((c.fdiv 5).fmod ((z2.length : Int) + 1))) = zl at lL aL ⊢
      refine B_set (v_slS (v_slot rfl) (p_int (v_lenS (v_slot rfl) (by omega))) p_no (by omega)) fun H11 e11 => ?_
      have lR := cut_from z2 zl.length
      have aR := asc2.cut (some (zl.length : Int)) none
      generalize cutS z2 (some (zl.length : Int)) none = zr at lR aR ⊢
      have one : ∀ k : Nat, (⟨#[k]⟩ : Str).length = 1 := fun _ => rfl
      refine S_retL (l_cmp1 (fun _ => true) (fun m => .str (zl ++ ⟨#[signs.cps.toList.getD (((c.fdiv 7) + 7 * (m : Int)).fmod 36).toNat 0]⟩ ++ zr)) (g_cons (v_slot rfl) g_nil) bn (fun _ => rfl) (fun _ _ _ _ => s_yes) (fun m H12 _ _ _ => v_op (v_op (v_slot rfl) (v_op (v_slot rfl) (v_op (v_op (v_op (v_slot rfl) v_con (bi_C ⟨by decide, by decide⟩)) (v_op v_con (v_slot rfl) (bi_C (.inl ⟨by decide, by decide⟩))) bi_0) v_con (bi_C (show (36 : Int) ≠ 0 by decide))) (bi_sign (n := 36) (by decide +kernel) (by decide) (by decide))) (bi_cat (by rw [one]; omega))) (v_slot rfl) (bi_cat (by rw [cat_len, one]; omega)))) fun p H12 hp e12 h12 => ?_
      rw [nat] at h12
      refine q _ _ (((e9.trans e10).trans e11).trans e12) (names_out (s := fun m => zl ++ ⟨#[signs.cps.toList.getD (((c.fdiv 7) + 7 * (m : Int)).fmod 36).toNat 0]⟩ ++ zr) (fun m _ => nameB_of (by rw [cat_len, cat_len, one]; omega) (by rw [cat_len, cat_len, one]; omega) ((aL.cat (.one (sign_mod _))).cat aR)) (fun hn4 i j hi hj e => by
        have h1 := str_cancel e
        have h2 : signs.cps.toList.getD (((c.fdiv 7) + 7 * (i : Int)).fmod 36).toNat 0 = signs.cps.toList.getD (((c.fdiv 7) + 7 * (j : Int)).fmod 36).toNat 0 := (List.cons.inj (congrArg (fun u : Str => u.cps.toList) h1)).1
        have b1 := fmod_in ((c.fdiv 7) + 7 * (i : Int)) (m := 36) (by decide)
        have b2 := fmod_in ((c.fdiv 7) + 7 * (j : Int)) (m := 36) (by decide)
        have h3 := sign_inj (by omega) (by omega) h2
        rw [Int.fmod_eq_emod_of_nonneg _ (by decide)] at b1 h3
        rw [Int.fmod_eq_emod_of_nonneg _ (by decide)] at b2 h3
        omega) h12)
    intro _ H9 e9
    replace q := q.mono e9
    -- numbers behind
    refine B_set (v_slS (v_slot rfl) p_no (p_int (v_op v_con (v_intB (v_op (v_slot rfl) v_con bi_0)) bi_0)) (by omega)) fun H10 e10 => ?_
    have hz3 : (cutS z2 none (some (10 - (if decide ((99 : Int) < (n : Int)) = true then (1 : Int) else 0)))).length ≤ (if n < 100 then 10 else 9) := by
      by_cases hn99 : (99 : Int) < (n : Int)
      · rw [decide_eq_true hn99, if_pos rfl, if_neg (by omega)]
        have l := cut_to z2 9
        have e9' : ((9 : Nat) : Int) = 10 - 1 := rfl
        rw [e9'] at l
        omega
      · rw [decide_eq_false hn99, if_neg Bool.false_ne_true, if_pos (by omega)]
        have l := cut_to z2 10
        have e9' : ((10 : Nat) : Int) = 10 - 0 := rfl
        rw [e9'] at l
        omega
    have hz3' : (cutS z2 none (some (10 - (if decide ((99 : Int) < (n : Int)) = true then (1 : Int) else 0)))).length ≤ 10 := by
      refine Nat.le_trans hz3 ?_
      split <;> omega
    have asc3 := asc2.cut none (some (10 - (if decide ((99 : Int) < (n : Int)) = true then (1 : Int) else 0)))
    generalize cutS z2 none (some (10 - (if decide ((99 : Int) < (n : Int)) = true then (1 : Int) else 0))) = z3 at hz3 hz3' asc3 ⊢
    refine S_retL (l_cmp1 (fun _ => true) (fun m => .str (z3 ++ toString (m : Int))) (g_cons (v_slot rfl) g_nil) bn (fun _ => rfl) (fun _ _ _ _ => s_yes) (fun m H11 _ hm _ => v_op (v_slot rfl) (v_str (v_slot rfl) (num_small (by omega))) (bi_cat (by have := num_len m (by omega); omega)))) fun p H11 hp e11 h11 => ?_
    rw [nat] at h11
    refine q _ _ (e10.trans e11) (names_out (s := fun m => z3 ++ toString (m : Int)) (fun m hm => ?_) (fun hn4 i j hi hj e => ?_) h11)
    · obtain ⟨t1, t2, t3⟩ := num_text m (by omega)
      have t4 := num_len m (by omega)
      refine nameB_of (by rw [cat_len]; omega) ?_ (asc3.cat t3)
      rw [cat_len]
      by_cases n100 : n < 100
      · rw [if_pos n100] at hz3
        rw [if_pos (by omega)] at t2
        omega
      · rw [if_neg n100] at hz3
        omega
    · have key : ∀ i, i < 4 → ∀ j, j < 4 → (toString ((i : Nat) : Int) : Str) = toString ((j : Nat) : Int) → i = j := by decide +kernel
      refine key i (by omega) j (by omega) (str_cancel (a := z3) (c := "") ?_)
      have nil : ∀ u : Str, u ++ ("" : Str) = u := fun u => by
        cases u
        exact congrArg Str.mk (Array.append_empty)
      rw [nil, nil]
      exact e

theorem ok_Wish (T : Top K mg) (TB : Tabs T base) : FnOk P w K mg base CX0 1 T.f_Wish T.fd_Wish ["_law_cell"] (spWish) := by
  refine T.F_Wish.ok scWish (fun vs H Q E h => ?_) (fun cdv A outer s H vs Q E hr h => ?_)
  · obtain ⟨c, rfl, q⟩ := h
    rfl
  · obtain ⟨c, rfl, q⟩ := h
    refine ⟨_, (pss_cons (ps_if (pt_cmpR op_eq (pe_op op_modN (pv 0) pe_int) pe_int (nomark _))
      (pss_one (ps_ret pe_str))
      pss_nil)
      (pss_one (ps_ret pe_str))), ?_⟩
    refine slots (start_Wish _) ?_
    refine' B_when (b := decide (c.fmod 3 = 0)) (Ts.is (s_test (v_op (v_op (v_slot rfl) v_con (bi_C (show (3 : Int) ≠ 0 by decide))) v_con (bi_eq rfl))) ?e) ?y ?n
    case e => exact decide_eq_decide.mpr ⟨V.int.inj, congrArg V.int⟩
    all_goals intro hb H1 e1
    · refine S_ret v_con fun H2 e2 => ?_
      have e : wishOf c = wr := if_pos (of_decide_eq_true hb)
      rw [e] at q
      exact q H2 (e1.trans e2)
    · refine S_ret v_con fun H2 e2 => ?_
      have e : wishOf c = rd := if_neg (of_decide_eq_false hb)
      rw [e] at q
      exact q H2 (e1.trans e2)
theorem ok_Alike (T : Top K mg) (TB : Tabs T base) : FnOk P w K mg base CX0 1 T.f_Alike T.fd_Alike ["_law_found", "_law_due"] (spAlike K) := by
  refine T.F_Alike.ok scAlike (fun vs H Q E h => ?_) (fun cdv A outer s H vs Q E hr h => ?_)
  · obtain ⟨p, u, xs, ys, l, rfl, hp, hu, tx, ty, hn, hg, q⟩ := h
    rfl
  · obtain ⟨p, u, xs, ys, l, rfl, hp, hu, tx, ty, hn, hg, q⟩ := h
    refine ⟨_, (pss_cons (ps_if (PW.pt (pw_or (pt_not (pt_val (pe_callB call_isi (by rfl) T.m_isinstance (by decide +kernel) (pa_cons (pv 0) (pa_cons (pe_bltn (v := .ty "list") (by rfl) T.m_list (by decide +kernel) rfl) pa_nil))))) (pw_or1 (pt_cmpR op_ne (pe_callB call_len_seq (by rfl) T.m_len PySem.boot_len (pa_cons (pv 0) pa_nil)) (pe_callB call_len_seq (by rfl) T.m_len PySem.boot_len (pa_cons (pv 1) pa_nil)) (nomark _)))))
      (pss_one (ps_ret pe_bl))
      pss_nil)
      (pss_cons (ps_for PassesOwn.never rfl (pi_range1 (by rfl) T.m_range (pa_cons (pe_callB call_len_seq (by rfl) T.m_len PySem.boot_len (pa_cons (pv 1) pa_nil)) pa_nil)) (pg_name (i := 2) scAlike.nd rfl (Or.inl rfl))
      (pss_cons (ps_if (PW.pt (pw_or (pt_not (pt_val (pe_callB call_isi (by rfl) T.m_isinstance (by decide +kernel) (pa_cons (pe_ix ix_list (pv 0) (pv 2) (fun _ _ => rfl)) (pa_cons (pe_bltn (v := .ty "tuple") (by rfl) T.m_tuple (by decide +kernel) rfl) pa_nil))))) (pw_or1 (pt_cmpR op_ne (pe_callB call_len_seq (by rfl) T.m_len PySem.boot_len (pa_cons (pe_ix ix_list (pv 0) (pv 2) (fun _ _ => rfl)) pa_nil)) (pe_callB call_len_seq (by rfl) T.m_len PySem.boot_len (pa_cons (pe_ix ix_list (pv 1) (pv 2) (fun _ _ => rfl)) pa_nil)) (nomark _)))))
      (pss_one (ps_ret pe_bl))
      pss_nil)
      (pss_one (ps_if (pt_cmpR (op_neD hr.units) (pe_lc (own := [("_law_word", 3)]) rfl scAlike.nd (pi_tup (pe_ix ix_list (pv 0) (pv 2) (fun _ _ => rfl))) (blkOk_by (own := [("_law_word", 3)]) (N := nmAlike) (sc := defScope sAlike) (by decide +kernel)) (fun _ _ _ _ _ => (pg_name (i := 3) scAlike.nd rfl (Or.inl rfl))) (fun _ _ _ _ _ => (pts_one (pt_not (pt_val (pe_callB (r := rIsi K) call_isi (by rfl) T.m_isinstance (by decide +kernel) (pa_cons (pv 3) (pa_cons (pe_bltn (v := .ty "str") (by rfl) T.m_str (by decide +kernel) rfl) pa_nil))))))) (fun _ _ _ _ _ => (pv 3))) (pe_lst pa_nil) (nomark _))
      (pss_one (ps_ret pe_bl))
      pss_nil))))
      (pss_one (ps_ret (pe_cmpR (op_eqD hr.units) (pv 0) (pv 1) (nomark _)))))), ?_⟩
    refine slots (start_Alike _ _) ?_
    refine' B_when (b := false) (Ts.is (s_or (s_not (s_test (v_isl (v_slot rfl) hp))) (fun _ => s_test (v_op (v_len (v_slot rfl) (SqL.of hp)) (v_len (v_slot rfl) (SqL.of hu)) (bi_ne rfl)))) ?e) (fun hb => nomatch hb) ?n
    case e => simp [tx.length, ty.length]
    intro _ H1 e1
    replace tx := tx.mono e1
    replace ty := ty.mono e1
    replace hp := e1.lst hp
    replace hu := e1.lst hu
    have lx := tx.length
    have ly := ty.length
    refine B_for1 (n := (ys.length : Int)) (g_cons (v_len (v_slot rfl) (SqL.of hu)) g_nil) (by omega) (fun m σ' H' => ∃ y2 y3, σ' = [some (.ref p), some (.ref u), y2, y3] ∧ Gr H1 H') (fun H2 g => ⟨_, _, rfl, g⟩) ?hs ?hd
    case hs =>
      rintro m σ' H' hm ⟨y2, y3, rfl, g⟩
      have hm' : m < l.length := by omega
      obtain ⟨pa, va, ha⟩ := tx.get m (List.getElem?_eq_getElem hm')
      obtain ⟨pb, vb, hb⟩ := ty.get m (List.getElem?_eq_getElem hm')
      have fx : ∀ {H2 : Hp} {σ2 : L2.St}, Gr H1 H2 → σ2[0]? = some (some (.ref p)) → σ2[2]? = some (some (.int (m : Int))) → Vl (tOp (rIxL K) (tVar 0) (tVar 2)) σ2 H2 (.ref pa) := fun g2 s0 s2 => v_op (v_slot s0) (v_slot s2) (bi_ixL (SqL.of (g2.lst hp)) (atI_nat va))
      have fy : ∀ {H2 : Hp} {σ2 : L2.St}, Gr H1 H2 → σ2[1]? = some (some (.ref u)) → σ2[2]? = some (some (.int (m : Int))) → Vl (tOp (rIxL K) (tVar 1) (tVar 2)) σ2 H2 (.ref pb) := fun g2 s1 s2 => v_op (v_slot s1) (v_slot s2) (bi_ixL (SqL.of (g2.lst hu)) (atI_nat vb))
      refine' B_when (b := false) (Ts.is (s_or (s_not (s_test (v_ist (fx g rfl rfl) (g.tup ha)))) (fun _ => s_test (v_op (v_lenT (fx g rfl rfl) (SqT.of (g.tup ha))) (v_lenT (fy g rfl rfl) (SqT.of (g.tup hb))) (bi_ne rfl)))) ?e3) (fun hb => nomatch hb) ?n3
      case e3 => simp
      intro _ H2 e2
      have len : (JRow.vs l[m]).length ≤ 40000 := by
        have := (hg _ (List.getElem_mem hm')).2.1
        unfold JRow.vs
        rw [List.length_map]
        omega
      refine' S_when (b := false) (Ts.is (s_test (v_opR (S := fun w H3 => ∃ p3, w = .ref p3 ∧ H3 p3 = some (.lst [])) (l_cmpT (fun _ => false) (fun _ => .non) (fx (g.trans e2) rfl rfl) (SqT.of ((g.trans e2).tup ha)) len (fun _ => rfl) (fun m2 x2 H3 e3 hx => ?tt) (fun _ _ _ _ _ hf => nomatch hf)).toR (fun g4 ⟨p4, a4, b4⟩ => ⟨p4, a4, g4.lst b4⟩) (fun _ _ _ _ => (l_lst g_nil (by decide)).toR) (fun x3 y3 H3 _ hx hy => ?oo))) ?e4) (fun hb => nomatch hb) ?n4
      case tt =>
        obtain ⟨s2, rfl⟩ : ∃ s2, x2 = V.str s2 := by
          unfold JRow.vs at hx
          rw [List.getElem?_map] at hx
          cases e5 : l[m][m2]? with
          | none => rw [e5] at hx; cases hx
          | some s2 => rw [e5] at hx; exact ⟨s2, (Option.some.inj hx).symm⟩
        exact Ts.is (s_not (s_test (v_issS (v_slot rfl)))) rfl
      case oo =>
        obtain ⟨pc, rfl, hc⟩ := hx
        obtain ⟨pd, rfl, hd⟩ := hy
        have ec : out (JRow.vs l[m]).length (fun _ => false) (fun _ => V.non) = [] := by
          simp [out]
        rw [ec] at hc
        exact bi_neD (.lst (SqL.of hc) .nil) (.lst (SqL.of hd) .nil) (by decide +kernel) (by decide +kernel)
      case e4 => decide +kernel
      intro _ H4 e4
      exact ⟨_, _, rfl, (g.trans e2).trans e4⟩
    rintro σ' H2 ⟨y2, y3, rfl, g⟩
    refine' S_ret (Vl.is (v_op (v_slot rfl) (v_slot rfl) (bi_eqD (.lst (SqL.of (g.lst hp)) (dps_rows (tx.mono g))) (.lst (SqL.of (g.lst hu)) (dps_rows (ty.mono g))) (shaped_rows l hg) (shaped_rows l hg))) ?er) fun H3 e3 => q H3 ((e1.trans g).trans e3)
    case er => rw [SeqAt.eqv_refl _ (SeqAt.canLay_of_shaped (shaped_rows l hg))]

--CUT
def spNameF : Sp := fun vs H Q _ => ∃ z : Str, vs = [.str z] ∧ z.length ≤ 100000 ∧ RV (.bl (nameB z)) H Q
theorem sv_namef {H : Hp} {z : Str} (n : z.length ≤ 100000) : SpV spNameF [.str z] H (.bl (nameB z)) := fun H1 Q E g q => ⟨z, rfl, n, q⟩
def spFormed12 (K : PySem.W.Frag) : Sp := fun vs H Q _ => ∃ (p : Addr) (xs : List V), vs = [.ref p] ∧ H p = some (.tup xs) ∧ (∀ x ∈ xs, Thing K x H) ∧ RV (.bl (rowV xs)) H Q
theorem rowV_row {xs : List V} (h : rowV xs = true) : ∃ l : JRow, xs = l.vs ∧ l.ok := by
  have isS : ∀ {l : List Str} {v : V}, wordV l v = true → ∃ z, v = .str z := fun {l v} h => by
    cases v <;> first | exact ⟨_, rfl⟩ | cases h
  have isN : ∀ {v : V}, nameV v = true → ∃ z, v = .str z := fun {v} h => by
    cases v <;> first | exact ⟨_, rfl⟩ | cases h
  have isW : ∀ {v : V}, wishV v = true → ∃ z, v = .str z := fun {v} h => by
    cases v <;> first | exact ⟨_, rfl⟩ | cases h
  match xs, h with
  | [w, n, x], h =>
    have h' := h
    simp only [rowV, Bool.and_eq_true] at h'
    obtain ⟨z1, rfl⟩ := isS h'.1
    obtain ⟨z2, rfl⟩ := isN h'.2.1
    obtain ⟨z3, rfl⟩ := isW h'.2.2
    exact ⟨[z1, z2, z3], rfl, rowV_ok.mp h⟩
  | [w, n], h =>
    have h' := h
    simp only [rowV, Bool.and_eq_true] at h'
    obtain ⟨z1, rfl⟩ := isS h'.1
    obtain ⟨z2, rfl⟩ := isN h'.2
    exact ⟨[z1, z2], rfl, rowV_ok.mp h⟩
  | [], h => cases h
  | [_], h => cases h
  | _ :: _ :: _ :: _ :: _, h => cases h
theorem ok_NameF (T : Top K mg) (TB : Tabs T base) : FnOk P w K mg base CX0 1 T.f_NameF T.fd_NameF ["_law_thing"] (spNameF) := by
  refine T.F_NameF.ok scNameF (fun vs H Q E h => ?_) (fun cdv A outer s H vs Q E hr h => ?_)
  · obtain ⟨z, rfl, hz, q⟩ := h
    rfl
  · obtain ⟨z, rfl, hz, q⟩ := h
    refine ⟨_, (pss_cons (ps_if (PW.pt (pw_or (pt_not (pt_val (pe_callB call_isi (by rfl) T.m_isinstance (by decide +kernel) (pa_cons (pv 0) (pa_cons (pe_bltn (v := .ty "str") (by rfl) T.m_str (by decide +kernel) rfl) pa_nil))))) (pw_or (pt_cmpR op_lt (pe_callB call_len_str (by rfl) T.m_len PySem.boot_len (pa_cons (pv 0) pa_nil)) pe_int (nomark _)) (pw_or1 (pt_cmpR op_gt (pe_callB call_len_str (by rfl) T.m_len PySem.boot_len (pa_cons (pv 0) pa_nil)) pe_int (nomark _))))))
      (pss_one (ps_ret pe_bl))
      pss_nil)
      (pss_cons (ps_set (i := 1) scNameF.nd rfl (Or.inr rfl) pe_str)
      (pss_one (ps_ret (pe_cmpR (XE.op_eqX hr.units) (pe_lc (own := [("_law_sign", 2)]) rfl scNameF.nd (pi_str (pv 0)) (blkOk_by (own := [("_law_sign", 2)]) (N := nmNameF) (sc := defScope sNameF) (by decide +kernel)) (fun _ _ _ _ _ => (pg_name (i := 2) scNameF.nd rfl (Or.inl rfl))) (fun _ _ _ _ _ => (pts_one (pt_cmpR op_notInS (pv 2) (pv 1) rfl))) (fun _ _ _ _ _ => (pv 2))) (pe_lst pa_nil) (nomark _)))))), ?_⟩
    refine slots (start_NameF _) ?_
    refine' B_when ?h ?k1 ?k2
    (case h => refine' s_or (s_not (s_B (v_issS (v_slot rfl)))) (fun _ => s_or (s_test (v_op (v_lenS (v_slot rfl) hz) v_con bi_0)) (fun _ => s_test (v_op (v_lenS (v_slot rfl) hz) v_con bi_0))))
    all_goals intro hb H1 e1
    · refine S_ret v_con fun H2 e2 => ?_
      have e : nameB z = false := by
        unfold nameB
        have h1 : (decide (1 ≤ (z.length : Int)) && decide ((z.length : Int) ≤ 12)) = false := by
          simp only [Bool.not_true, Bool.false_or, Bool.or_eq_true, decide_eq_true_eq] at hb
          simp only [Bool.and_eq_false_iff, decide_eq_false_iff_not]
          omega
        rw [h1]
        rfl
      rw [e] at q
      exact q H2 (e1.trans e2)
    · have e : nameB z = ((List.range z.cps.toList.length).filter fun m => !decide (z.cps.toList.getD m 0 ∈ signs.cps.toList)).isEmpty := by
        unfold nameB
        have h1 : (decide (1 ≤ (z.length : Int)) && decide ((z.length : Int) ≤ 12)) = true := by
          simp only [Bool.not_true, Bool.false_or, Bool.or_eq_false_iff, decide_eq_false_iff_not] at hb
          simp only [Bool.and_eq_true, decide_eq_true_eq]
          omega
        rw [h1, Bool.true_and]
        exact (none_out z.cps.toList fun k => decide (k ∈ signs.cps.toList)).symm
      rw [e] at q
      replace q := q.mono e1
      refine' B_set v_con ?kk
      intro H2 e2
      have sz : z.cps.size = z.cps.toList.length := Array.length_toList.symm
      have le : z.cps.size ≤ 40000 := by
        simp only [Bool.not_true, Bool.false_or, Bool.or_eq_false_iff, decide_eq_false_iff_not] at hb
        show z.length ≤ 40000
        omega
      refine' S_ret (v_opR (Ls.toR (l_cmpS (w := z) (fun m => !decide (z.cps.toList.getD m 0 ∈ signs.cps.toList)) (fun m => V.str ⟨#[z.cps.toList.getD m 0]⟩) (v_slot rfl) le (fun _ => rfl) ?ht ?he)) (fun g h => ⟨h.choose, h.choose_spec.1, g.lst h.choose_spec.2⟩) (fun x H1 g hx => Ls.toR (l_lst g_nil (by decide))) ?o) ?kk2
      case ht =>
        intro m k H3 g hk
        rw [cps_getD hk]
        exact s_test (v_op (v_slot rfl) (v_slot rfl) bi_notInS)
      case he =>
        intro m k H3 g hk _
        rw [cps_getD hk]
        exact v_slot rfl
      case o =>
        rintro _ _ H3 g ⟨p, rfl, hp⟩ ⟨p2, rfl, hp2⟩
        exact XE.bi_eqNil (SqL.of hp) (SqL.of hp2)
      intro H3 e3
      unfold out
      rw [List.isEmpty_map, sz]
      exact q H3 (e2.trans e3)
def strV : V → Bool
  | .str _ => true
  | _ => false
theorem v_strT {K : PySem.W.Frag} {σ : L2.St} {H : Hp} {t1 : TE} {v : V} (h : Vl t1 σ H v) (t : Thing K v H) : Vl (tCB (rIsi K) (tCons t1 (tCons (tC (.ty "str")) tNil))) σ H (.bl (strV v)) := by
  rcases t with ⟨z, rfl, _⟩ | ⟨n, no⟩
  · exact v_issS h
  · have : strV v = false := by cases v <;> first | exact absurd rfl (no _) | rfl
    rw [this]
    exact v_nostr h n
theorem no_words {xs : List V} : ((List.range xs.length).filter (fun m => !strV (xs.getD m .non))).isEmpty = xs.all strV := by
  rw [Bool.eq_iff_iff, List.isEmpty_iff, List.filter_eq_nil_iff, List.all_eq_true]
  constructor
  · intro h x hx
    obtain ⟨m, hm, rfl⟩ := List.getElem_of_mem hx
    have := h m (List.mem_range.mpr hm)
    rw [List.getD_eq_getElem?_getD, List.getElem?_eq_getElem hm] at this
    simpa using this
  · intro h m hm
    have hm := List.mem_range.mp hm
    rw [List.getD_eq_getElem?_getD, List.getElem?_eq_getElem hm]
    have := h _ (List.getElem_mem hm)
    simpa using this
theorem all_strs : ∀ {xs : List V}, xs.all strV = true → ∃ l : List Str, xs = l.map V.str
  | [], _ => ⟨[], rfl⟩
  | x :: xs, h => by
    rw [List.all_cons, Bool.and_eq_true] at h
    obtain ⟨l, rfl⟩ := all_strs h.2
    cases x with
    | str z => exact ⟨z :: l, rfl⟩
    | _ => cases h.1
theorem rowV_strs {xs : List V} (h : rowV xs = true) : xs.all strV = true := by
  obtain ⟨l, rfl, _⟩ := rowV_row h
  unfold JRow.vs
  rw [List.all_map]
  exact List.all_eq_true.mpr fun _ _ => rfl
theorem in_listS {K : PySem.W.Frag} {σ : L2.St} {H : Hp} {t1 t2 : TE} {z : Str} {l : List Str} (h : Vl t1 σ H (.str z)) (h2 : Ls t2 σ H (l.map V.str)) : Vl (tOp (rIn K false) t1 t2) σ H (.bl (decide (z ∈ l))) := by
  refine v_opN h h2 fun p H1 hp g => bi_is (bi_inL (SqL.of hp) rfl (flat_words l)) ?_
  rw [if_neg Bool.false_ne_true, in_words]
theorem ok_Formed (T : Top K mg) (TB : Tabs T base) : FnOk P w K mg base CX0 2 T.f_Formed T.fd_Formed ["_law_row"] (spFormed12 K) := by
  have GNameF := ok_NameF (P := P) (w := w) (base := base) T TB
  refine T.F_Formed.ok scFormed (fun vs H Q E h => ?_) (fun cdv A outer s H vs Q E hr h => ?_)
  · obtain ⟨p, xs, rfl, hp, th, q⟩ := h
    rfl
  · obtain ⟨p, xs, rfl, hp, th, q⟩ := h
    refine ⟨_, (pss_cons (ps_if (PW.pt (pw_or (pt_not (pt_val (pe_callB call_isi (by rfl) T.m_isinstance (by decide +kernel) (pa_cons (pv 0) (pa_cons (pe_bltn (v := .ty "tuple") (by rfl) T.m_tuple (by decide +kernel) rfl) pa_nil))))) (pw_or (pt_cmpR op_lt (pe_callB call_len_seq (by rfl) T.m_len PySem.boot_len (pa_cons (pv 0) pa_nil)) pe_int (nomark _)) (pw_or1 (pt_cmpR op_gt (pe_callB call_len_seq (by rfl) T.m_len PySem.boot_len (pa_cons (pv 0) pa_nil)) pe_int (nomark _))))))
      (pss_one (ps_ret pe_bl))
      pss_nil)
      (pss_cons (ps_if (PW.pt (pw_or (pt_cmpR (XE.op_neX hr.units) (pe_lc (own := [("_law_word", 1)]) rfl scFormed.nd (pi_tup (pv 0)) (blkOk_by (own := [("_law_word", 1)]) (N := nmFormed) (sc := defScope sFormed) (by decide +kernel)) (fun _ _ _ _ _ => (pg_name (i := 1) scFormed.nd rfl (Or.inl rfl))) (fun _ _ _ _ _ => (pts_one (pt_not (pt_val (pe_callB (r := rIsi K) call_isi (by rfl) T.m_isinstance (by decide +kernel) (pa_cons (pv 1) (pa_cons (pe_bltn (v := .ty "str") (by rfl) T.m_str (by decide +kernel) rfl) pa_nil))))))) (fun _ _ _ _ _ => (pv 1))) (pe_lst pa_nil) (nomark _)) (pw_or1 (pt_not (pt_val (pe_call GNameF hr (by rfl) T.g_NameF T.F_NameF.kp T.B_NameF .nil pass0 (pa_cons (pe_ix ix_tup (pv 0) pe_int (fun _ _ => rfl)) pa_nil)))))))
      (pss_one (ps_ret pe_bl))
      pss_nil)
      (pss_cons (ps_if (pt_cmpR op_eq (pe_callB call_len_seq (by rfl) T.m_len PySem.boot_len (pa_cons (pv 0) pa_nil)) pe_int (nomark _))
      (pss_one (ps_ret (pe_and (pe_cmpR op_in_seq (pe_ix ix_tup (pv 0) pe_int (fun _ _ => rfl)) (pe_lst (pa_cons pe_str (pa_cons pe_str pa_nil))) (by rfl)) (pe_one (pe_cmpR op_in_seq (pe_ix ix_tup (pv 0) pe_int (fun _ _ => rfl)) (pe_lst (pa_cons pe_str (pa_cons pe_str pa_nil))) (by rfl))))))
      pss_nil)
      (pss_one (ps_ret (pe_cmpR op_in_seq (pe_ix ix_tup (pv 0) pe_int (fun _ _ => rfl)) (pe_lst (pa_cons pe_str (pa_cons pe_str (pa_cons pe_str pa_nil)))) (by rfl))))))), ?_⟩
    refine slots (start_Formed _) ?_
    have no : ∀ (H2 : Hp), Gr H H2 → rowV xs = false → ∀ H3, Gr H2 H3 → Q (.bl false) H3 := fun H2 g2 e H3 g3 => by
      rw [e] at q
      exact q H3 (g2.trans g3)
    refine B_when (s_or (s_not (s_B (v_ist (v_slot rfl) hp))) (fun _ => s_or (s_test (v_op (v_lenT (v_slot rfl) (SqT.of hp)) v_con bi_0)) (fun _ => s_test (v_op (v_lenT (v_slot rfl) (SqT.of hp)) v_con bi_0)))) (fun hb H1 e1 => ?_) fun hb H1 e1 => ?_
    · refine S_ret v_con (no _ e1 ?_)
      simp only [Bool.not_true, Bool.false_or, Bool.or_eq_true, decide_eq_true_eq] at hb
      match xs, hb with
      | [], _ => rfl
      | [_], _ => rfl
      | [_, _], hb => exact absurd hb (by simp)
      | [_, _, _], hb => exact absurd hb (by simp)
      | _ :: _ :: _ :: _ :: _, _ => rfl
    simp only [Bool.not_true, Bool.false_or, Bool.or_eq_false_iff, decide_eq_false_iff_not] at hb
    have ln : xs.length ≤ 40000 := by omega
    have flt : ∀ {σ : L2.St}, σ = [some (.ref p), none] → Ts (tTest (tOp (XE.rNeX K) (tLc (iTup K (tVar 0)) (gName 1) (tNot (tB (tCB (rIsi K) (tCons (tVar 1) (tCons (tC (.ty "str")) tNil))))) (tVar 1) [1]) (tLst tNil))) σ H1 (!xs.all strV) := fun {σ} es => by
      subst es
      refine Ts.is (s_test (v_opR (z := .bl (!(out xs.length (fun m => !strV (xs.getD m .non)) (fun m => xs.getD m .non)).isEmpty)) (Ls.toR (l_cmpT (fun m => !strV (xs.getD m .non)) (fun m => xs.getD m .non) (v_slot rfl) (SqT.of (e1.tup hp)) ln (fun _ => rfl) (fun m x H2 g2 hx => ?tt) (fun m x H2 g2 hx _ => ?ee))) (fun g ⟨p, a, b⟩ => ⟨p, a, g.lst b⟩) (fun x H2 g2 hx => Ls.toR (l_lst g_nil (by decide))) (fun x y H2 g2 ⟨p1, ex, h1⟩ ⟨p2, ey, h2⟩ => ?oo))) ?ff
      case tt =>
        have ex : xs.getD m .non = x := by rw [List.getD_eq_getElem?_getD, hx]; rfl
        rw [ex]
        exact s_not (s_B (v_strT (v_slot rfl) ((th x (List.mem_of_getElem? hx)).mono (e1.trans g2))))
      case ee =>
        have ex : xs.getD m .non = x := by rw [List.getD_eq_getElem?_getD, hx]; rfl
        rw [ex]
        exact v_slot rfl
      case oo =>
        subst ex ey
        exact XE.bi_neNil (SqL.of h1) (SqL.of h2)
      case ff =>
        unfold out
        rw [List.isEmpty_map, no_words]
    by_cases hs : xs.all strV = true
    rotate_left
    · refine B_when (b := true) (s_or (b := true) (c := false) (Ts.is (flt rfl) (by rw [Bool.not_eq_true _ |>.mp hs]; rfl)) fun z => nomatch z) (fun _ H2 e2 => ?_) fun z => nomatch z
      refine S_ret v_con (no _ (e1.trans e2) ?_)
      cases e : rowV xs with
      | false => rfl
      | true => exact absurd (rowV_strs e) hs
    have flt' : Ts _ _ H1 false := Ts.is (flt rfl) (by rw [hs]; rfl)
    obtain ⟨l, rfl⟩ := all_strs hs
    rw [List.length_map] at hb
    have sl : ∀ z ∈ l, z.length ≤ 100000 := fun z hz => by
      rcases th (.str z) (List.mem_map.mpr ⟨z, hz, rfl⟩) with ⟨z', e, h⟩ | ⟨_, h⟩
      · cases e
        exact h
      · exact absurd rfl (h z)
    have hp1 := e1.tup hp
    match l, hb, hp1, sl, flt', no, q with
    | [], hb, _, _, _, _, _ => exact absurd hb (by simp)
    | [_], hb, _, _, _, _, _ => exact absurd hb (by simp)
    | _ :: _ :: _ :: _ :: _, hb, _, _, _, _, _ => exfalso; simp only [List.length_cons] at hb; omega
    | [a, b], hb, hp1, sl, flt', no, q =>
      refine B_when (b := !nameB b) (Ts.is (s_or (b := false) flt' fun _ => s_not (s_B (v_call (g_cons (v_op (v_slot rfl) v_con (bi_ixT (SqT.of hp1) rfl)) g_nil) (sv_namef (sl b (by simp)))))) (Bool.false_or _)) (fun hn H2 e2 => ?_) fun hn H2 e2 => ?_
      · refine S_ret v_con (no _ (e1.trans e2) ?_)
        rw [Bool.not_eq_true'] at hn
        show (wordV _ _ && nameB b) = false
        rw [hn, Bool.and_false]
      rw [Bool.not_eq_false'] at hn
      refine B_when (b := false) (Ts.is (s_test (v_op (v_lenT (v_slot rfl) (SqT.of (e2.tup hp1))) v_con (bi_eq rfl))) rfl) (fun z => nomatch z) fun _ H3 e3 => ?_
      have g3 := e2.trans e3
      refine S_ret (in_listS (l := ["left", "asked", "eased"]) (v_op (v_slot rfl) v_con (bi_ixT (SqT.of (g3.tup hp1)) rfl)) (l_lst (g_cons v_con (g_cons v_con (g_cons v_con g_nil))) (show 3 ≤ 100000 by decide))) fun H4 e4 => ?_
      have : rowV ([a, b].map V.str) = decide (a ∈ (["left", "asked", "eased"] : List Str)) := by
        show (wordV _ _ && nameB b) = _
        rw [hn, Bool.and_true]
        rfl
      rw [this] at q
      exact q H4 (e1.trans (g3.trans e4))
    | [a, b, c], hb, hp1, sl, flt', no, q =>
      refine B_when (b := !nameB b) (Ts.is (s_or (b := false) flt' fun _ => s_not (s_B (v_call (g_cons (v_op (v_slot rfl) v_con (bi_ixT (SqT.of hp1) rfl)) g_nil) (sv_namef (sl b (by simp)))))) (Bool.false_or _)) (fun hn H2 e2 => ?_) fun hn H2 e2 => ?_
      · refine S_ret v_con (no _ (e1.trans e2) ?_)
        rw [Bool.not_eq_true'] at hn
        show (wordV _ _ && (nameB b && _)) = false
        rw [hn, Bool.false_and, Bool.and_false]
      rw [Bool.not_eq_false'] at hn
      refine B_when (b := true) (Ts.is (s_test (v_op (v_lenT (v_slot rfl) (SqT.of (e2.tup hp1))) v_con (bi_eq rfl))) rfl) (fun _ H3 e3 => ?_) fun z => nomatch z
      have g3 := e2.trans e3
      refine S_ret (v_and (in_listS (l := ["came", "begins"]) (v_op (v_slot rfl) v_con (bi_ixT (SqT.of (g3.tup hp1)) rfl)) (l_lst (g_cons v_con (g_cons v_con g_nil)) (show 2 ≤ 100000 by decide))) fun _ => in_listS (l := [rd, wr]) (v_op (v_slot rfl) v_con (bi_ixT (SqT.of (g3.tup hp1)) rfl)) (l_lst (g_cons v_con (g_cons v_con g_nil)) (show 2 ≤ 100000 by decide))) fun H4 e4 => ?_
      have : rowV ([a, b, c].map V.str) = (decide (a ∈ (["came", "begins"] : List Str)) && decide (c ∈ ([rd, wr] : List Str))) := by
        show (wordV _ _ && (nameB b && (decide (c = rd) || decide (c = wr)))) = _
        rw [hn, Bool.true_and]
        congr 1
        simp
      rw [this] at q
      exact q H4 (e1.trans (g3.trans e4))

--CUT
section
variable {K : PySem.W.Frag} {σ : L2.St} {H : Hp} {t1 t2 : TE} {g1 : TG} {u1 u2 : TS} {D : Ends} {xs : List V}
theorem B_forLs (h : Ls t1 σ H xs) (Pv : Addr → Nat → L2.St → Hp → Prop) (h0 : ∀ a H1, Gr H H1 → H1 a = some (.lst xs) → Pv a 0 σ H1) (hl : ∀ a m σ' H', m ≤ xs.length → Pv a m σ' H' → SqL K H' a xs)
    (hs : ∀ a m x σ' H', xs[m]? = some x → Pv a m σ' H' → g1 x σ' H' fun σ2 H2 => u1 { D with nx := Pv a (m + 1), ct := Pv a (m + 1), bk := u2 D } σ2 H2) (hd : ∀ a σ' H', Pv a xs.length σ' H' → u2 D σ' H') : tSeq (tFor (iList K t1) g1 u1) u2 D σ H :=
  h H _ (.refl _) fun a H1 _ g e => ⟨a, rfl, ⟨xs, SqL.of e⟩, for_list (D := { D with nx := u2 D }) (Pv a) (h0 a H1 g e) (hl a) (hs a) (hd a)⟩
theorem r_catA {p : Addr} {x : V} (a : Vl t1 σ H (.ref p)) (hp : H p = some (.tup xs)) (b : Tu t2 σ H [x]) (n : xs.length + 1 ≤ 100000) : Vr (tOp (rCatA K) t1 t2) σ H (fun v H1 => ∃ q, v = .ref q ∧ H1 q = some (.tup (xs ++ [x]))) := fun H1 Q g r => a H1 _ g fun H2 g2 => b H2 _ (g.trans g2) fun q H3 _ g3 e3 =>
  ⟨p, q, xs, [x], rfl, rfl, SqT.of (((g.trans g2).trans g3).tup hp), SqT.of e3, small n, fun ex => r _ H3 (g2.trans g3) ⟨q, rfl, by rw [ex]; exact e3⟩, (fun _ z => nomatch z), fun _ _ l hl => r _ _ ((g2.trans g3).trans (.new hl)) ⟨l, rfl, upd_same⟩⟩
end
def spRowsOf12 (K : PySem.W.Frag) : Sp := fun vs H Q _ => ∃ (p : Addr) (zs : List Str), vs = [.ref p] ∧ H p = some (.lst (zs.map V.str)) ∧ zs.length ≤ 100 ∧ (∀ z ∈ zs, z.length ≤ 10000) ∧ (zs.all lineOk = false → RV .non H Q) ∧ (zs.all lineOk = true → RR_ (NewRows H (zs.map wordsOf)) H Q)
theorem take_one {α : Type} {l : List α} {m : Nat} {x : α} (h : l[m]? = some x) : l.take (m + 1) = l.take m ++ [x] := by rw [List.take_add_one, h]; rfl
theorem ok_RowsOf (T : Top K mg) (TB : Tabs T base) : FnOk P w K mg base CX0 3 T.f_RowsOf T.fd_RowsOf ["_law_lines"] (spRowsOf12 K) := by
  have GFormed := ok_Formed (P := P) (w := w) (base := base) T TB
  refine T.F_RowsOf.ok scRowsOf (fun vs H Q E h => ?_) (fun cdv A outer s H vs Q E hr h => ?_)
  · obtain ⟨p, zs, rfl, hp, lz, sz, q1, q2⟩ := h
    rfl
  · obtain ⟨p, zs, rfl, hp, lz, sz, q1, q2⟩ := h
    refine ⟨_, (pss_cons (ps_set (i := 1) scRowsOf.nd rfl (Or.inl rfl) (pe_lst pa_nil))
      (pss_cons (ps_for PassesOwn.never rfl (pi_list (pv 0)) (pg_name (i := 2) scRowsOf.nd rfl (Or.inl rfl))
      (pss_cons (ps_set (i := 3) scRowsOf.nd rfl (Or.inl rfl) (pe_tup pa_nil))
      (pss_cons (ps_for PassesOwn.never rfl (pi_list (pe_bm PySem.F.plainAttrs_str PySem.F.slot_str_split PySem.F.type_str_split mt_split (pv 2) (pa_cons pe_str pa_nil))) (pg_name (i := 4) scRowsOf.nd rfl (Or.inl rfl))
      (pss_one (ps_set (i := 3) scRowsOf.nd rfl (Or.inl rfl) (pe_op op_catA (pv 3) (pe_tup (pa_cons (pv 4) pa_nil))))))
      (pss_cons (ps_if (pt_not (pt_val (pe_call GFormed hr (by rfl) T.g_Formed T.F_Formed.kp T.B_Formed .nil pass0 (pa_cons (pv 3) pa_nil))))
      (pss_one (ps_ret pe_non))
      pss_nil)
      (pss_one (ps_expr (pe_bm PySem.F.plainAttrs_list PySem.F.slot_list_append PySem.F.type_list_append mt_append (pv 1) (pa_cons (pv 3) pa_nil))))))))
      (pss_one (ps_ret (pv 1))))), ?_⟩
    refine slots (start_RowsOf _) ?_
    refine B_setR (Ls.toN (l_lst g_nil (show 0 ≤ 100000 by decide))) fun v H1 e1 ⟨pr, ev, npr, h1⟩ => ?_
    subst ev
    walk_at "n"
    refine B_forL (v_slot rfl) (SqL.of (e1.lst hp)) (fun m σ' H' => ∃ y2 y3 y4 ya, σ' = [some (.ref p), some (.ref pr), y2, y3, y4] ∧ Gr H H' ∧ H' pr = some (.lst ya) ∧ TupsAt H' JRow.vs ya ((zs.take m).map wordsOf) ∧ (zs.take m).all lineOk = true)
      (fun H2 e2 => ⟨_, _, _, [], rfl, e1.trans e2, e2.lst h1, .nil, rfl⟩) (fun m σ' H' _ ⟨_, _, _, _, _, g, _⟩ => SqL.of (g.lst hp)) ?step fun σ' H2 ⟨y2, y3, y4, ya, es, g, h2, t2, all⟩ => by
        subst es
        rw [List.length_map, List.take_length] at t2 all
        exact S_ret (v_slot rfl) fun H3 e3 => q2 all _ H3 (g.trans e3) ⟨pr, ya, rfl, npr, e3.lst h2, t2.mono e3⟩
    rintro m x σ' H2 hx ⟨y2, y3, y4, ya, rfl, g, h2, t2, all⟩
    obtain ⟨z, hz, rfl⟩ : ∃ z, zs[m]? = some z ∧ V.str z = x := by
      rw [List.getElem?_map] at hx
      cases h : zs[m]? with
      | none => rw [h] at hx; cases hx
      | some z => rw [h] at hx; exact ⟨z, rfl, Option.some.inj hx⟩
    have mz := List.mem_of_getElem? hz
    have lz2 := sz z mz
    have ml : m < zs.length := (List.getElem?_eq_some_iff.mp hz).1
    have lya := t2.length
    rw [List.length_map, List.length_take] at lya
    walk_at "n"
    refine B_setU (u_tup g_nil (show 0 ≤ 100000 by decide)) fun p0 H3 hp0 e3 h3 => ?_
    walk_at "n"
    have lw : (wordsOf z).length ≤ z.length + 2 := (PyProof.Rows.fact_split z (Str.ofString " ")).2
    refine B_forLs (l_split (v_slot rfl) v_con (by decide +kernel) (by omega)) (fun aw k σ' H' => ∃ y4 pt, σ' = [some (.ref p), some (.ref pr), some (.str z), some (.ref pt), y4] ∧ Gr H3 H' ∧ H' aw = some (.lst ((wordsOf z).map V.str)) ∧ H' pt = some (.tup (((wordsOf z).take k).map V.str)))
      (fun aw H4 e4 h4 => ⟨_, p0, rfl, e4, h4, e4.tup h3⟩) (fun aw k σ' H' _ ⟨_, _, _, _, h, _⟩ => SqL.of h) (fun aw k x σ' H4 hx ⟨y5, pt, es, g4, h4, ht⟩ => ?_) fun aw σ' H4 ⟨y5, pt, es, g4, h4, ht⟩ => ?_
    · subst es
      obtain ⟨wd, hw, rfl⟩ : ∃ wd, (wordsOf z)[k]? = some wd ∧ V.str wd = x := by
        rw [List.getElem?_map] at hx
        cases h : (Txt.split z (Str.ofString " "))[k]? with
        | none => rw [h] at hx; cases hx
        | some u => rw [h] at hx; exact ⟨u, h, Option.some.inj hx⟩
      walk_at "n"
      refine S_setR (r_catA (v_slot rfl) ht (u_tup (g_cons (v_slot rfl) g_nil) (show 1 ≤ 100000 by decide)) (by rw [List.length_map, List.length_take]; omega)) fun v H5 e5 ⟨q5, ev, h5⟩ => ?_
      subst ev
      refine ⟨_, q5, rfl, g4.trans e5, e5.lst h4, ?_⟩
      rw [take_one hw, List.map_append]
      exact h5
    · subst es
      rw [List.length_map, show ((Txt.split z (Str.ofString " ")).length) = (wordsOf z).length from rfl, List.take_length] at ht
      have g34 := e3.trans g4
      have th : ∀ {Hx : Hp}, ∀ x ∈ (wordsOf z).map V.str, Thing K x Hx := things_str (b := 10000) (by decide) fun s hs => Nat.le_trans (PyProof.Rows.part_short hs) lz2
      refine B_when (b := !lineOk z) (s_not (s_B (v_call (g_cons (v_slot rfl) g_nil) fun Hx Qx Ex gx qx => ⟨pt, _, rfl, gx.tup ht, th, qx⟩))) (fun hb H5 e5 => ?_) fun hb H5 e5 => ?_
      · rw [Bool.not_eq_true'] at hb
        exact S_ret v_con fun H6 e6 => q1 (by
          cases h : zs.all lineOk with
          | false => rfl
          | true =>
            have := List.all_eq_true.mp h z mz
            rw [hb] at this
            cases this) H6 (((g.trans g34).trans e5).trans e6)
      · rw [Bool.not_eq_false'] at hb
        have g5 := g34.trans e5
        refine S_app (g5.lst h2) (v_slot rfl) (v_slot rfl) (by omega) fun H6 e6 => ?_
        have g6 := g5.trans e6
        have hpr := g6.lst h2
        have hpt := (e5.trans e6).tup ht
        refine ⟨_, _, _, ya ++ [.ref pt], rfl, (g.trans g6).chg npr, upd_same, ?_, ?_⟩
        · rw [take_one hz, List.map_append]
          exact ((t2.mono g6).chg fun ts w => by rw [hpr] at w; cases w).snoc ((upd_ne fun w => by rw [w, hpr] at hpt; cases hpt).trans hpt)
        · rw [take_one hz, List.all_append, all, List.all_cons, hb]
          rfl

--CUT
/-! ### lines: short, without a line's end -/
def Line (b : Nat) (z : Str) : Prop := z.length ≤ b ∧ 10 ∉ z.cps.toList
theorem Line.le {a b : Nat} {z : Str} (h : Line a z) (k : a ≤ b) : Line b z := ⟨Nat.le_trans h.1 k, h.2⟩
theorem Line.cat {a b : Nat} {x y : Str} (h : Line a x) (k : Line b y) : Line (a + b) (x ++ y) := ⟨by rw [cat_len]; exact Nat.add_le_add h.1 k.1, by
  show 10 ∉ (x ++ y).cps.toList
  rw [Str.cps_append, Array.toList_append, List.mem_append]
  exact fun z => z.elim h.2 k.2⟩
theorem Line.cut {a : Nat} {x : Str} (h : Line a x) (lo hi : Option Int) : Line a (cutS x lo hi) := ⟨Nat.le_trans (cut_len _ _ _) h.1, fun z => h.2 (List.mem_of_mem_drop (List.mem_of_mem_take z))⟩
theorem Line.name {z : Str} (h : nameB z = true) : Line 12 z := ⟨(nameB_is h).2.1, fun k => absurd ((nameB_is h).2.2 10 k) (by decide +kernel)⟩
theorem Line.of {b : Nat} {z : Str} (h : (decide (z.length ≤ b) && decide (10 ∉ z.cps.toList)) = true) : Line b z := by
  rw [Bool.and_eq_true, decide_eq_true_eq, decide_eq_true_eq] at h
  exact h
theorem Line.all {b : Nat} {l : List Str} (h : (l.all fun z => decide (z.length ≤ b) && decide (10 ∉ z.cps.toList)) = true) : ∀ z ∈ l, Line b z := fun z hz => Line.of (List.all_eq_true.mp h z hz)
def LineV (b : Nat) (v : V) (_ : Hp) : Prop := ∃ z, v = .str z ∧ Line b z
def spLineBy (K : PySem.W.Frag) : Sp := fun vs H Q _ => ∃ (c : Int) (pp : Addr) (ps : List Str), vs = [.int c, .ref pp] ∧ H pp = some (.lst (ps.map V.str)) ∧ ps.length = 5 ∧ (∀ n ∈ ps, nameB n = true) ∧ RR_ (LineV 30) H Q
def spOddBy (K : PySem.W.Frag) : Sp := fun vs H Q _ => ∃ (c m : Int) (r : Str), vs = [.int c, .int m, .str r] ∧ Line 30 r ∧ RR_ (LineV 61) H Q
def words5 : List Str := ["came", "begins", "left", "asked", "eased"]
def odA : List Str := ["", " ", "came", "came a", "came a b", "left", "left a b", "begin a read", "comes a read", "left  a"]
def odB : List Str := [" left a", "left a ", "came a  read", "came  a read", "came a read "]
def odC : List Str := ["came a read write", "Left a"]
def odD : List Str := ["left A", "left abcdefghijklm", "left abcdefghijkl", "asked\ta"]
def odE : List Str := ["eased a-b", "came a Read", "read a"]
def odF : List Str := ["came a reads", "begins a", "passed a"]
def odd27 : List Str := ((((odA ++ odB) ++ odC) ++ odD) ++ odE) ++ odF
def signs45 : Str := " abcdefghijklmnopqrstuvwxyz0123456789-ABCZ.\t"
theorem words5_line : ∀ z ∈ words5, Line 6 z := Line.all (by decide +kernel)
theorem odd27_line : ∀ z ∈ odd27, Line 31 z := Line.all (by decide +kernel)
theorem wish_line (c : Int) : Line 5 (wishOf c) := by rcases wishOf_ok c with h | h <;> rw [h] <;> exact Line.of (by decide +kernel)
theorem sp_line : Line 1 " " := Line.of (by decide +kernel)
theorem ok_LineBy (T : Top K mg) (TB : Tabs T base) : FnOk P w K mg base CX0 2 T.f_LineBy T.fd_LineBy ["_law_cell", "_law_people_here"] (spLineBy K) := by
  have GWish := ok_Wish (P := P) (w := w) (base := base) T TB
  refine T.F_LineBy.ok scLineBy (fun vs H Q E h => ?_) (fun cdv A outer s H vs Q E hr h => ?_)
  · obtain ⟨c, pp, ps, rfl, hp, lp, nm, q⟩ := h
    rfl
  · obtain ⟨c, pp, ps, rfl, hp, lp, nm, q⟩ := h
    refine ⟨_, (pss_cons (ps_set (i := 2) scLineBy.nd rfl (Or.inl rfl) (pe_ix ix_list (pv 1) (pe_op op_modN (pe_op op_fdivN (pv 0) pe_int) pe_int) (fun _ _ => rfl)))
      (pss_cons (ps_set (i := 3) scLineBy.nd rfl (Or.inl rfl) (pe_ix ix_list (pe_lst (pa_cons pe_str (pa_cons pe_str (pa_cons pe_str (pa_cons pe_str (pa_cons pe_str pa_nil)))))) (pe_op op_modN (pv 0) pe_int) (fun _ _ => rfl)))
      (pss_cons (ps_if (pt_cmpR op_lt (pe_op op_modN (pv 0) pe_int) pe_int (nomark _))
      (pss_one (ps_ret (pe_op op_add_str (pe_op op_add_str (pe_op op_add_str (pe_op op_add_str (pv 3) pe_str) (pv 2)) pe_str) (pe_call GWish hr (by rfl) T.g_Wish T.F_Wish.kp T.B_Wish .nil pass0 (pa_cons (pe_op op_fdivN (pv 0) pe_int) pa_nil)))))
      pss_nil)
      (pss_one (ps_ret (pe_op op_add_str (pe_op op_add_str (pv 3) pe_str) (pv 2))))))), ?_⟩
    refine slots (start_LineBy _ _) ?_
    have b1 := fmod_in (c.fdiv 5) (m := 5) (by decide)
    have b2 := fmod_in c (m := 5) (by decide)
    obtain ⟨k, ek, hk⟩ : ∃ k : Nat, (c.fdiv 5).fmod 5 = (k : Int) ∧ k < 5 := ⟨((c.fdiv 5).fmod 5).toNat, by omega, by omega⟩
    obtain ⟨j, ej, hj⟩ : ∃ j : Nat, c.fmod 5 = (j : Int) ∧ j < 5 := ⟨(c.fmod 5).toNat, by omega, by omega⟩
    obtain ⟨n, hn⟩ : ∃ n, ps[k]? = some n := ⟨_, List.getElem?_eq_getElem (by omega)⟩
    obtain ⟨wd, hw⟩ : ∃ wd, words5[j]? = some wd := ⟨_, List.getElem?_eq_getElem (show j < words5.length from hj)⟩
    have ln := Line.name (nm n (List.mem_of_getElem? hn))
    have lw := words5_line wd (List.mem_of_getElem? hw)
    have hn' : (ps.map V.str)[k]? = some (.str n) := by rw [List.getElem?_map, hn]; rfl
    have hw' : (words5.map V.str)[j]? = some (.str wd) := by rw [List.getElem?_map, hw]; rfl
    have l1 := lw.1
    have l2 := ln.1
    have l3 := (wish_line (c.fdiv 25)).1
    have e1' : (" " : Str).length = 1 := rfl
    refine B_set (v_op (v_slot rfl) (Vl.is (v_op (v_op (v_slot rfl) v_con (bi_C (show CDivN c 5 from ⟨by decide, by decide⟩))) v_con (bi_C (show (5 : Int) ≠ 0 by decide))) (congrArg V.int ek)) (bi_ixL (SqL.of hp) (atI_nat hn'))) fun H1 e1 => ?_
    walk_at "n"
    refine B_set (v_opL (l_lst (vs := words5.map V.str) (g_cons v_con (g_cons v_con (g_cons v_con (g_cons v_con (g_cons v_con g_nil))))) (by decide)) (fun H2 g2 => Vl.is (v_op (v_slot rfl) v_con (bi_C (show (5 : Int) ≠ 0 by decide))) (congrArg V.int ej)) fun p H2 h2 g2 => bi_ixL (SqL.of h2) (atI_nat hw')) fun H2 e2 => ?_
    walk_at "n"
    have g2 := e1.trans e2
    have pre : ∀ {Hx : Hp} {σ : L2.St}, σ[3]? = some (some (.str wd)) → σ[2]? = some (some (.str n)) → Vl (tOp _ (tOp _ (tVar 3) (tC (.str " "))) (tVar 2)) σ Hx (.str (wd ++ " " ++ n)) := fun h3 h2 => v_op (v_op (v_slot h3) v_con (bi_cat (by rw [e1']; omega))) (v_slot h2) (bi_cat (by rw [cat_len, e1']; omega))
    refine B_when (b := decide (c.fmod 5 < 2)) (s_test (v_op (v_op (v_slot rfl) v_con (bi_C (show (5 : Int) ≠ 0 by decide))) v_con bi_0)) (fun hb H3 e3 => ?_) fun hb H3 e3 => ?_
    · refine S_ret (v_op (v_op (pre rfl rfl) v_con (bi_cat (by rw [cat_len, cat_len, e1']; omega))) (v_call (g_cons (v_op (v_slot rfl) v_con (bi_C (show CDivN c 25 from ⟨by decide, by decide⟩))) g_nil) sv_wish) (bi_cat (by rw [cat_len, cat_len, cat_len, e1']; omega))) fun H4 e4 => q _ H4 ((g2.trans e3).trans e4) ⟨_, rfl, ((((lw.cat sp_line).cat ln).cat sp_line).cat (wish_line _)).le (by decide)⟩
    · exact S_ret (pre rfl rfl) fun H4 e4 => q _ H4 ((g2.trans e3).trans e4) ⟨_, rfl, ((lw.cat sp_line).cat ln).le (by decide)⟩
theorem ok_OddBy (T : Top K mg) (TB : Tabs T base) : FnOk P w K mg base CX0 1 T.f_OddBy T.fd_OddBy ["_law_cell", "_law_more", "_law_right"] (spOddBy K) := by
  refine T.F_OddBy.ok scOddBy (fun vs H Q E h => ?_) (fun cdv A outer s H vs Q E hr h => ?_)
  · obtain ⟨c, m, r, rfl, lr, q⟩ := h
    rfl
  · obtain ⟨c, m, r, rfl, lr, q⟩ := h
    refine ⟨_, (pss_cons (ps_set (i := 3) scOddBy.nd rfl (Or.inl rfl) (pe_lst (pa_cons pe_str (pa_cons pe_str (pa_cons pe_str (pa_cons pe_str (pa_cons pe_str (pa_cons pe_str (pa_cons pe_str (pa_cons pe_str (pa_cons pe_str (pa_cons pe_str pa_nil))))))))))))
      (pss_cons (ps_set (i := 3) scOddBy.nd rfl (Or.inl rfl) (pe_op op_cat (pv 3) (pe_lst (pa_cons pe_str (pa_cons pe_str (pa_cons pe_str (pa_cons pe_str (pa_cons pe_str pa_nil))))))))
      (pss_cons (ps_set (i := 3) scOddBy.nd rfl (Or.inl rfl) (pe_op op_cat (pv 3) (pe_lst (pa_cons pe_str (pa_cons pe_str pa_nil)))))
      (pss_cons (ps_set (i := 3) scOddBy.nd rfl (Or.inl rfl) (pe_op op_cat (pv 3) (pe_lst (pa_cons pe_str (pa_cons pe_str (pa_cons pe_str (pa_cons pe_str pa_nil)))))))
      (pss_cons (ps_set (i := 3) scOddBy.nd rfl (Or.inl rfl) (pe_op op_cat (pv 3) (pe_lst (pa_cons pe_str (pa_cons pe_str (pa_cons pe_str pa_nil))))))
      (pss_cons (ps_set (i := 3) scOddBy.nd rfl (Or.inl rfl) (pe_op op_cat (pv 3) (pe_lst (pa_cons pe_str (pa_cons pe_str (pa_cons pe_str pa_nil))))))
      (pss_cons (ps_if (pt_cmpR op_lt (pe_op op_modN (pv 0) pe_int) pe_int (nomark _))
      (pss_one (ps_ret (pe_ix ix_list (pv 3) (pe_op op_modN (pv 0) pe_int) (fun _ _ => rfl))))
      pss_nil)
      (pss_cons (ps_set (i := 4) scOddBy.nd rfl (Or.inl rfl) (pe_op op_modN (pv 1) (pe_op op_add (pe_callB call_len_str (by rfl) T.m_len PySem.boot_len (pa_cons (pv 2) pa_nil)) pe_int)))
      (pss_cons (ps_set (i := 5) scOddBy.nd rfl (Or.inl rfl) pe_str)
      (pss_cons (ps_set (i := 6) scOddBy.nd rfl (Or.inl rfl) (pe_ix ix_str (pv 5) (pe_op op_modN (pe_op op_fdivN (pv 1) pe_int) (pe_callB call_len_str (by rfl) T.m_len PySem.boot_len (pa_cons (pv 5) pa_nil))) (fun _ _ => rfl)))
      (pss_cons (ps_if (pt_cmpR op_eq (pe_op op_modN (pv 0) pe_int) pe_int (nomark _))
      (pss_one (ps_ret (pe_op op_add_str (pe_op op_add_str (pe_slice sl_str (pv 2) po_none (po_some (pv 4))) (pv 6)) (pe_slice sl_str (pv 2) (po_some (pv 4)) po_none))))
      pss_nil)
      (pss_cons (ps_if (pt_cmpR op_eq (pe_op op_modN (pv 0) pe_int) pe_int (nomark _))
      (pss_one (ps_ret (pe_op op_add_str (pe_slice sl_str (pv 2) po_none (po_some (pv 4))) (pe_slice sl_str (pv 2) (po_some (pe_op op_add (pv 4) pe_int)) po_none))))
      pss_nil)
      (pss_one (ps_ret (pe_op op_add_str (pe_op op_add_str (pe_slice sl_str (pv 2) po_none (po_some (pv 4))) (pv 6)) (pe_slice sl_str (pv 2) (po_some (pe_op op_add (pv 4) pe_int)) po_none)))))))))))))))), ?_⟩
    refine slots (start_OddBy _ _ _) ?_
    have b30 := fmod_in c (m := 30) (by decide)
    have lr1 := lr.1
    refine B_setL (l_lst (vs := odA.map V.str) (g_cons v_con (g_cons v_con (g_cons v_con (g_cons v_con (g_cons v_con (g_cons v_con (g_cons v_con (g_cons v_con (g_cons v_con (g_cons v_con g_nil)))))))))) (show 10 ≤ 100000 by decide)) fun p1 H1 hp1 e1 h1 => ?_
    walk_at "n"
    refine B_setR (r_cat (R := fun _ _ => True) (ys := odB.map V.str) (v_slot rfl) h1 (l_lst (g_cons v_con (g_cons v_con (g_cons v_con (g_cons v_con (g_cons v_con g_nil))))) (show 5 ≤ 100000 by decide)) (show 10 + 5 ≤ 100000 by decide)) fun v H2 e2 ⟨p2, ev, np2, h2⟩ => ?_
    subst ev
    walk_at "n"
    refine B_setR (r_cat (R := fun _ _ => True) (ys := odC.map V.str) (v_slot rfl) h2 (l_lst (g_cons v_con (g_cons v_con g_nil)) (show 2 ≤ 100000 by decide)) (show 15 + 2 ≤ 100000 by decide)) fun v H3 e3 ⟨p3, ev, np3, h3⟩ => ?_
    subst ev
    walk_at "n"
    refine B_setR (r_cat (R := fun _ _ => True) (ys := odD.map V.str) (v_slot rfl) h3 (l_lst (g_cons v_con (g_cons v_con (g_cons v_con (g_cons v_con g_nil)))) (show 4 ≤ 100000 by decide)) (show 17 + 4 ≤ 100000 by decide)) fun v H4 e4 ⟨p4, ev, np4, h4⟩ => ?_
    subst ev
    walk_at "n"
    refine B_setR (r_cat (R := fun _ _ => True) (ys := odE.map V.str) (v_slot rfl) h4 (l_lst (g_cons v_con (g_cons v_con (g_cons v_con g_nil))) (show 3 ≤ 100000 by decide)) (show 21 + 3 ≤ 100000 by decide)) fun v H5 e5 ⟨p5, ev, np5, h5⟩ => ?_
    subst ev
    walk_at "n"
    refine B_setR (r_cat (R := fun _ _ => True) (ys := odF.map V.str) (v_slot rfl) h5 (l_lst (g_cons v_con (g_cons v_con (g_cons v_con g_nil))) (show 3 ≤ 100000 by decide)) (show 24 + 3 ≤ 100000 by decide)) fun v H6 e6 ⟨p6, ev, np6, h6⟩ => ?_
    subst ev
    walk_at "n"
    have g6 := ((((e1.trans e2).trans e3).trans e4).trans e5).trans e6
    have all27 : ((((odA.map V.str ++ odB.map V.str) ++ odC.map V.str) ++ odD.map V.str) ++ odE.map V.str) ++ odF.map V.str = odd27.map V.str := by
      unfold odd27
      rw [List.map_append, List.map_append, List.map_append, List.map_append, List.map_append]
    rw [all27] at h6
    obtain ⟨j, ej, hj⟩ : ∃ j : Nat, c.fmod 30 = (j : Int) ∧ j < 30 := ⟨(c.fmod 30).toNat, by omega, by omega⟩
    refine B_when (b := decide ((j : Int) < 27)) (s_test (v_op (Vl.is (v_op (v_slot rfl) v_con (bi_C (show (30 : Int) ≠ 0 by decide))) (congrArg V.int ej)) v_con bi_0)) (fun hb H7 e7 => ?_) fun hb H7 e7 => ?_
    · have hj2 : j < odd27.length := by have := of_decide_eq_true hb; show j < 27; omega
      obtain ⟨z, hz⟩ : ∃ z, odd27[j]? = some z := ⟨_, List.getElem?_eq_getElem hj2⟩
      have hz' : (odd27.map V.str)[j]? = some (.str z) := by rw [List.getElem?_map, hz]; rfl
      exact S_ret (v_op (v_slot rfl) (Vl.is (v_op (v_slot rfl) v_con (bi_C (show (30 : Int) ≠ 0 by decide))) (congrArg V.int ej)) (bi_ixL (SqL.of (e7.lst h6)) (atI_nat hz'))) fun H8 e8 => q _ H8 ((g6.trans e7).trans e8) ⟨z, rfl, (odd27_line z (List.mem_of_getElem? hz)).le (by decide)⟩
    have g7 := g6.trans e7
    have rl : (0 : Int) < (r.length : Int) + 1 := by omega
    have bp := fmod_in m (m := (r.length : Int) + 1) rl
    refine B_set (v_op (v_slot rfl) (v_op (v_lenS (v_slot rfl) (by omega)) v_con bi_0) (bi_C (show (r.length : Int) + 1 ≠ 0 by omega))) fun H8 e8 => ?_
    walk_at "n"
    refine B_set (v := .str signs45) v_con fun H9 e9 => ?_
    walk_at "n"
    have sl : signs45.length = 44 := by decide +kernel
    have b45 := fmod_in (m.fdiv 50) (m := 44) (by decide)
    obtain ⟨i, ei, hi⟩ : ∃ i : Nat, (m.fdiv 50).fmod 44 = (i : Int) ∧ i < 44 := ⟨((m.fdiv 50).fmod 44).toNat, by omega, by omega⟩
    obtain ⟨k, hk⟩ : ∃ k, signs45.cps.toList[i]? = some k := ⟨_, List.getElem?_eq_getElem (by rw [Array.length_toList]; show i < signs45.length; omega)⟩
    have l45 : signs45.length ≤ 100000 := by omega
    have k10 : Line 1 ⟨#[k]⟩ := ⟨Nat.le_refl _, fun z => absurd (List.mem_of_getElem? hk) (by rw [← List.mem_singleton.mp z]; decide +kernel)⟩
    refine B_set (v_op (v_slot rfl) (Vl.is (v_op (v_op (v_slot rfl) v_con (bi_C (show CDivN m 50 from ⟨by decide, by decide⟩))) (v_lenS (v_slot rfl) l45) (bi_C (by rw [sl]; decide))) (show V.int _ = V.int (i : Int) by rw [sl]; exact congrArg V.int ei)) (bi_ixS l45 (atI_nat hk))) fun H10 e10 => ?_
    walk_at "n"
    have g10 := ((g7.trans e8).trans e9).trans e10
    generalize m.fmod ((r.length : Int) + 1) = pl
    have sr : r.length ≤ 100000 := by omega
    have lft : ∀ {Hx : Hp} {σ : L2.St}, σ[2]? = some (some (.str r)) → σ[4]? = some (some (.int pl)) → Vl (tSl _ (tVar 2) tNoPart (tPart (tVar 4))) σ Hx (.str (cutS r none (some pl))) := fun h2 h4 => v_slS (v_slot h2) p_no (p_int (v_slot h4)) sr
    have cl := fun lo hi => cut_len r lo hi
    refine B_when (b := decide ((j : Int) = 27)) (Ts.is (s_test (v_op (Vl.is (v_op (v_slot rfl) v_con (bi_C (show (30 : Int) ≠ 0 by decide))) (congrArg V.int ej)) v_con (bi_eq rfl))) (decide_eq_decide.mpr ⟨V.int.inj, congrArg V.int⟩)) (fun hb2 H11 e11 => ?_) fun hb2 H11 e11 => ?_
    · exact S_ret (v_op (v_op (lft rfl rfl) (v_slot rfl) (bi_cat (by have := cl none (some pl); have := k10.1; omega))) (v_slS (v_slot rfl) (p_int (v_slot rfl)) p_no sr) (bi_cat (by have := cl none (some pl); have := cl (some pl) none; have := k10.1; rw [cat_len]; omega))) fun H12 e12 => q _ H12 ((g10.trans e11).trans e12) ⟨_, rfl, (((lr.cut none (some pl)).cat k10).cat (lr.cut (some pl) none)).le (by decide)⟩
    have rgt : ∀ {Hx : Hp} {σ : L2.St}, σ[2]? = some (some (.str r)) → σ[4]? = some (some (.int pl)) → Vl (tSl _ (tVar 2) (tPart (tOp (rI0 fun i j => .int (i + j)) (tVar 4) (tC (.int 1)))) tNoPart) σ Hx (.str (cutS r (some (pl + 1)) none)) := fun h2 h4 => v_slS (v_slot h2) (p_int (v_op (v_slot h4) v_con bi_0)) p_no sr
    refine B_when (b := decide ((j : Int) = 28)) (Ts.is (s_test (v_op (Vl.is (v_op (v_slot rfl) v_con (bi_C (show (30 : Int) ≠ 0 by decide))) (congrArg V.int ej)) v_con (bi_eq rfl))) (decide_eq_decide.mpr ⟨V.int.inj, congrArg V.int⟩)) (fun hb3 H12 e12 => ?_) fun hb3 H12 e12 => ?_
    · exact S_ret (v_op (lft rfl rfl) (rgt rfl rfl) (bi_cat (by have := cl none (some pl); have := cl (some (pl + 1)) none; omega))) fun H13 e13 => q _ H13 (((g10.trans e11).trans e12).trans e13) ⟨_, rfl, ((lr.cut none (some pl)).cat (lr.cut (some (pl + 1)) none)).le (by decide)⟩
    · exact S_ret (v_op (v_op (lft rfl rfl) (v_slot rfl) (bi_cat (by have := cl none (some pl); have := k10.1; omega))) (rgt rfl rfl) (bi_cat (by have := cl none (some pl); have := cl (some (pl + 1)) none; have := k10.1; rw [cat_len]; omega))) fun H13 e13 => q _ H13 (((g10.trans e11).trans e12).trans e13) ⟨_, rfl, (((lr.cut none (some pl)).cat k10).cat (lr.cut (some (pl + 1)) none)).le (by decide)⟩

--CUT
/-! ### what a text of lines tells -/
def wholeOf (zs : List Str) : Str := Txt.join "" (zs.map fun x => x ++ "\n")
theorem split_of {ls : List Str} (ne : ls ≠ []) (h : ∀ z ∈ ls, 10 ∉ TL.tl z) : Txt.split (Txt.join "\n" ls) "\n" = ls := TL.split_join (y := "\n") (s := 10) (S := []) rfl (by decide +kernel) ne h
theorem parse_whole {zs : List Str} (h : ∀ z ∈ zs, 10 ∉ TL.tl z) : parse (wholeOf zs) = if zs.all lineOk = true then some (zs.map wordsOf) else none := by
  unfold parse wholeOf
  rw [ended, split_of (by simp) fun z hz => (List.mem_append.mp hz).elim (h z) fun w => by rw [List.mem_singleton.mp w]; decide +kernel]
  rw [List.getLast?_append, List.dropLast_concat]
  simp
theorem glue_end {zs : List Str} (ne : zs ≠ []) : Txt.join "\n" (zs ++ ([""] : List Str)) = Txt.join "\n" zs ++ "\n" := by
  induction zs with
  | nil => exact absurd rfl ne
  | cons x l ih =>
    cases l with
    | nil =>
      rw [List.singleton_append, glue _ _ (List.cons_ne_nil _ _), glue1, glue1, cat_nil]
    | cons y l =>
      rw [List.cons_append, glue _ _ (by simp), ih (List.cons_ne_nil _ _), glue _ _ (List.cons_ne_nil _ _), cat_assoc, cat_assoc, cat_assoc]
theorem cut_end (x : Str) : cutS (x ++ "\n") none (some (-1)) = x := by
  have en : ("\n" : Str).length = 1 := rfl
  have e : (x ++ ("\n" : Str)).cps.toList = x.cps.toList ++ ("\n" : Str).cps.toList := by rw [Str.cps_append, Array.toList_append]
  refine TL.ext_tl ?_
  show ((x ++ ("\n" : Str)).cps.toList.drop (HT.sIx (x ++ ("\n" : Str)).length 0 none)).take (HT.sIx (x ++ ("\n" : Str)).length (x ++ ("\n" : Str)).length (some (-1)) - HT.sIx (x ++ ("\n" : Str)).length 0 none) = x.cps.toList
  have s1 : HT.sIx (x ++ ("\n" : Str)).length (x ++ ("\n" : Str)).length (some (-1)) = x.length := by
    show (if (-1 : Int) < 0 then ((-1 : Int) + ((x ++ ("\n" : Str)).length : Int)).toNat else min (-1 : Int).toNat (x ++ ("\n" : Str)).length) = _
    rw [if_pos (by decide), cat_len, en]
    omega
  rw [s1, HT.sIx_none, Nat.sub_zero, List.drop_zero, e]
  show (x.cps.toList ++ _).take x.cps.size = _
  rw [← Array.length_toList, List.take_left]
theorem parse_cut {zs : List Str} (ne : zs ≠ []) (h : ∀ z ∈ zs, 10 ∉ TL.tl z) : parse (cutS (wholeOf zs) none (some (-1))) = if zs.getLast? = some "" ∧ zs.dropLast.all lineOk = true then some (zs.dropLast.map wordsOf) else none := by
  have e : cutS (wholeOf zs) none (some (-1)) = Txt.join "\n" zs := by
    unfold wholeOf
    rw [ended, glue_end ne, cut_end]
  rw [e]
  unfold parse
  rw [split_of ne h]
theorem whole_len {zs : List Str} {b : Nat} (h : ∀ z ∈ zs, z.length ≤ b) : (wholeOf zs).length ≤ zs.length * (b + 1) := by
  have en : ("\n" : Str).length = 1 := rfl
  unfold wholeOf
  refine Nat.le_trans (glue_len "" 0 rfl _ (b + 1) fun x hx => ?_) (by rw [List.length_map]; exact Nat.le_refl _)
  obtain ⟨z, hz, rfl⟩ := List.mem_map.mp hx
  rw [cat_len, en]
  exact Nat.add_le_add_right (h z hz) 1
def Lines (b : Nat) (n : Nat) (v : V) (H : Hp) : Prop := ∃ (la : Addr) (zs : List Str), v = .ref la ∧ H la = some (.lst (zs.map V.str)) ∧ zs.length ≤ n ∧ ∀ z ∈ zs, Line b z
section
variable {K : PySem.W.Frag} {σ : L2.St} {H : Hp} {t1 : TE} {a1 : TA}
theorem r_cmpL {b : Nat} {n : Int} {j : Nat} {ws : List Nat} (h : Ag a1 σ H [.int n]) (hn : 0 ≤ n ∧ n ≤ 40000) (hw : ∀ x, wipe ((wipe σ ws).set j (some x)) ws = wipe σ ws)
    (he : ∀ (m : Nat) H1, Gr H H1 → (m : Int) < n → Vr t1 ((wipe σ ws).set j (some (.int (m : Int)))) H1 (LineV b)) : Vr (tLc (iRng1 a1) (gName j) tYes t1 ws) σ H (Lines b n.toNat) := fun H0 Q gr q => h H0 _ gr fun H1 g1 => ⟨n, rfl, by omega, by omega, fun p hp =>
  lc_range (lo := 0) (n := n.toNat) (fun m H' => H1 p = none ∧ Gr H1 H' ∧ ∃ zs : List Str, H' p = some (.lst (zs.map V.str)) ∧ zs.length = m ∧ ∀ z ∈ zs, Line b z) ⟨hp, .new hp, [], upd_same, rfl, fun z h => absurd h List.not_mem_nil⟩ (fun m H' hm ⟨w1, w2, zs, w3, w4, w5⟩ => ⟨hw _, s_yes H' _ (.refl _) fun H3 g3 => iteT (by
    rw [Int.zero_add]
    refine he m H3 (((gr.trans g1).trans w2).trans g3) (by omega) H3 _ (.refl _) fun v H4 g4 ⟨z, ev, lz⟩ => ?_
    subst ev
    refine ⟨zs.map V.str, g4.lst (g3.lst w3), small' (by rw [List.length_map]; omega), w1, ((w2.trans g3).trans g4).chg w1, zs ++ [z], ?_, by rw [List.length_append, w4]; rfl, fun u hu => (List.mem_append.mp hu).elim (w5 u) fun w => by rw [List.mem_singleton.mp w]; exact lz⟩
    rw [List.map_append]
    exact upd_same)⟩)
    fun H' ⟨w1, w2, zs, w3, w4, w5⟩ => q _ H' (g1.trans w2) ⟨p, zs, rfl, w3, Nat.le_of_eq w4, w5⟩⟩
end

--CUT
def spLaw (K : PySem.W.Frag) (P : Addr) : Sp := fun vs H Q _ => ∃ (a : Addr) (ns : List Int), vs = [.ref a] ∧ SqL K H a (ns.map V.int) ∧ GxR.TabG H P ∧ ns.length ≤ 63 ∧ ∀ H', Q (.bl true) H'
theorem law_pre {K : PySem.W.Frag} {mg : Str → Option Value} (T : Top K mg) (H : Hp) (a : Addr) (ns : List Int) (hl : ns.length ≤ 63) (hS : SqL K H a (ns.map V.int)) (ht : ∀ p ∈ [(T.co_IsName, T.ta_IsName)], GxR.TabG H p.2) : spLaw K T.ta_IsName [.ref a] H (fun v _ => v = .bl true) fun _ _ _ => False :=
  ⟨a, ns, rfl, hS, ht _ List.mem_cons_self, hl, fun _ => rfl⟩
def NoS (K : PySem.W.Frag) (n : Nat) (vs : List V) (H : Hp) : Prop := vs.length = n ∧ ∀ v ∈ vs, NoStr K v H
theorem NoS.mono {K : PySem.W.Frag} {n : Nat} {vs : List V} {H H' : Hp} (g : Gr H H') (h : NoS K n vs H) : NoS K n vs H' := ⟨h.1, fun v hv => (h.2 v hv).mono g⟩
section
variable {K : PySem.W.Frag} {σ : L2.St} {H : Hp} {t1 t2 : TE} {a1 : TA} {n : Nat} {x : V} {xs : List V} {D : Ends} {u1 : TS} {sp : Sp} {E : XK} {R : V → Hp → Prop} {i : Nat}
theorem r_dnew {σ : L2.St} {H : Hp} : Vr tDNewK σ H (fun v H2 => ∃ d, v = .ref d ∧ H d = none ∧ H2 d = some (.dK [])) := fun H1 Q g q => fun d hd => q _ _ (.new hd) ⟨d, rfl, g.free hd, upd_same⟩
theorem S_retC2 {y : V} (h : Vr t1 σ H R) (h2 : ∀ H1, Gr H H1 → Vl t2 σ H1 y) (k : ∀ v H1 H2, Gr H H1 → Gr H1 H2 → R v H1 → sp [v, y] H2 D.rt E) : tRet (tCall sp [] E (tCons t1 (tCons t2 tNil))) D σ H := h H _ (.refl _) fun v H1 g r => h2 H1 g H1 _ (.refl _) fun H2 g2 => k v H1 H2 g g2 r
theorem r_callN (h : Ls t1 σ H xs) (k : ∀ p H1, Gr H H1 → H1 p = some (.lst xs) → SpR sp [.ref p] H1 R) : Vr (tCall sp [] E (tCons t1 tNil)) σ H R := fun H1 Q g q => h H1 _ g fun p H2 _ g2 e => k p H2 (g.trans g2) e H2 Q E (.refl _) fun v H3 g3 r => q v H3 (g2.trans g3) r
theorem S_retC (h : Vr t1 σ H R) (k : ∀ v H1, Gr H H1 → R v H1 → sp [v] H1 D.rt E) : tRet (tCall sp [] E (tCons t1 tNil)) D σ H := h H _ (.refl _) k
theorem ns_nil : Ar tNil σ H (NoS K 0) := fun H1 _ _ q => q [] H1 (.refl _) ⟨rfl, fun _ h => absurd h List.not_mem_nil⟩
theorem ns_cons (h : Vr t1 σ H (NoStr K)) (k : Ar a1 σ H (NoS K n)) : Ar (tCons t1 a1) σ H (NoS K (n + 1)) := fun H1 Q g q => h H1 _ g fun v H2 g2 hv => k H2 _ (g.trans g2) fun vs H3 g3 ⟨hl, ha⟩ => q (v :: vs) H3 (g2.trans g3) ⟨by rw [List.length_cons, hl], fun u hu => by
  rcases List.mem_cons.mp hu with e | e
  · rw [e]
    exact hv.mono g3
  · exact ha u e⟩
theorem ns_v (h : Vl t1 σ H x) (k : ∀ H1, NoStr K x H1) : Vr t1 σ H (NoStr K) := fun H1 Q g q => h H1 _ g fun H2 g2 => q _ H2 g2 (k H2)
theorem ns_l (h : Ls t1 σ H xs) : Vr t1 σ H (NoStr K) := fun H1 Q g q => h H1 _ g fun p H2 _ g2 hp => q _ H2 g2 (.lst hp)
theorem ns_u (h : Tu t1 σ H xs) : Vr t1 σ H (NoStr K) := fun H1 Q g q => h H1 _ g fun p H2 _ g2 hp => q _ H2 g2 (.tup hp)
theorem ns_d : Vr tDNewK σ H (NoStr K) := fun H1 Q g q => r_dnew H1 Q g fun v H2 g2 ⟨d, ev, _, c⟩ => q v H2 g2 (ev ▸ .dK c)
end
section
variable {K : PySem.W.Frag} {σ : L2.St} {H : Hp} {t1 t2 : TE}
theorem l_catN {xs ys : List V} (a : Ls t1 σ H xs) (b : Ls t2 σ H ys) (n : xs.length + ys.length ≤ 100000) : Ls (tOp rCat t1 t2) σ H (xs ++ ys) := fun H1 Q g q => a H1 _ g fun p H2 hp g2 e2 => b H2 _ (g.trans g2) fun w H3 hw g3 e3 => ⟨p, w, xs, ys, rfl, rfl, g3.lst e2, e3, small n, fun l hl => q l _ ((g2.trans g3).free hl) ((g2.trans g3).trans (.new hl)) upd_same⟩
end
theorem cut_strs (zs : List Str) (lo hi : Option Int) : ∃ us : List Str, cutV (zs.map V.str) lo hi = us.map V.str ∧ us.length ≤ zs.length ∧ ∀ u ∈ us, u ∈ zs := by
  unfold cutV
  rw [← List.map_drop, ← List.map_take]
  exact ⟨_, rfl, by rw [List.length_take, List.length_drop]; omega, fun u hu => List.mem_of_mem_drop (List.mem_of_mem_take hu)⟩
theorem v_neg {σ : L2.St} {H : Hp} {t1 : TE} {i : Int} (h : Vl t1 σ H (.int i)) : Vl (tUn (rU fun i => .int (-i)) t1) σ H (.int (-i)) := v_un h fun H1 Q g q => ⟨i, rfl, q⟩
theorem ok_rows {zs : List Str} (h : zs.all lineOk = true) : ∀ r ∈ zs.map wordsOf, r.ok := fun r hr => by
  obtain ⟨z, hz, rfl⟩ := List.mem_map.mp hr
  exact rowV_ok.mp (List.all_eq_true.mp h z hz)
/-- what rows_of hands out -/
def DueV (zs : List Str) (v : V) (H : Hp) : Prop := (zs.all lineOk = false ∧ v = .non) ∨ (zs.all lineOk = true ∧ ∃ la ya, v = .ref la ∧ H la = some (.lst ya) ∧ TupsAt H JRow.vs ya (zs.map wordsOf))
theorem DueV.mono {zs : List Str} {v : V} {H H' : Hp} (g : Gr H H') (h : DueV zs v H) : DueV zs v H' := h.imp id fun ⟨a, la, ya, b, c, d⟩ => ⟨a, la, ya, b, g.lst c, d.mono g⟩
theorem sr_due {K : PySem.W.Frag} {H : Hp} {p : Addr} {zs : List Str} (hp : H p = some (.lst (zs.map V.str))) (l : zs.length ≤ 100) (s : ∀ z ∈ zs, z.length ≤ 10000) : SpR (spRowsOf12 K) [.ref p] H (DueV zs) := fun H1 Q E g q =>
  ⟨p, zs, rfl, g.lst hp, l, s, fun e H2 g2 => q _ H2 g2 (.inl ⟨e, rfl⟩), fun e v H2 g2 ⟨la, ya, a, _, b, c⟩ => q v H2 g2 (.inr ⟨e, la, ya, a, b, c⟩)⟩
theorem sr_line {K : PySem.W.Frag} {H : Hp} {c : Int} {pp : Addr} {ps : List Str} (hp : H pp = some (.lst (ps.map V.str))) (l : ps.length = 5) (nm : ∀ n ∈ ps, nameB n = true) : SpR (spLineBy K) [.int c, .ref pp] H (LineV 30) := fun H1 Q E g q => ⟨c, pp, ps, rfl, g.lst hp, l, nm, q⟩
theorem ok_Law (T : Top K mg) (TB : Tabs T base) : FnOk P w K mg base CX0 6 T.f_Law T.fd_Law ["_law_script"] (spLaw K T.ta_IsName) := by
  have GCell := ok_Cell (P := P) (w := w) (base := base) T TB
  have GRefused := ok_Refused (P := P) (w := w) (base := base) T TB
  have GPeople := ok_People (P := P) (w := w) (base := base) T TB
  have GLineBy := ok_LineBy (P := P) (w := w) (base := base) T TB
  have GOddBy := ok_OddBy (P := P) (w := w) (base := base) T TB
  have GRowsOf := ok_RowsOf (P := P) (w := w) (base := base) T TB
  have GAlike := ok_Alike (P := P) (w := w) (base := base) T TB
  have GReadT := ok_ReadT (P := P) (w := w) (base := base) T TB
  refine T.F_Law.ok scLaw (fun vs H Q E h => ?_) (fun cdv A outer s H vs Q E hr h => ?_)
  · obtain ⟨a, ns, rfl, hS, hT, hlen, q⟩ := h
    rfl
  · obtain ⟨a, ns, rfl, hS, hT, hlen, q⟩ := h
    refine ⟨_, (pss_cons (ps_if (pt_cmpR op_eq (pe_op op_modN (pe_op op_fdivN (pe_call GCell (hr.mono (by decide)) (by rfl) T.g_Cell T.F_Cell.kp T.B_Cell .nil pass0 (pa_cons (pv 0) (pa_cons pe_int pa_nil))) pe_int) pe_int) pe_int (nomark _))
      (pss_one (ps_ret (pe_call GRefused hr (by rfl) T.g_Refused T.F_Refused.kp T.B_Refused .nil pass0 (pa_cons (pe_ix ix_list (pe_lst (pa_cons pe_non (pa_cons pe_int (pa_cons (pe_lst (pa_cons pe_str pa_nil)) (pa_cons pe_bl (pa_cons (pe_tup (pa_cons pe_str (pa_cons pe_str pa_nil))) (pa_cons pe_dnewK pa_nil))))))) (pe_op op_modN (pe_call GCell (hr.mono (by decide)) (by rfl) T.g_Cell T.F_Cell.kp T.B_Cell .nil pass0 (pa_cons (pv 0) (pa_cons pe_int pa_nil))) pe_int) (fun _ _ => rfl)) pa_nil))))
      pss_nil)
      (pss_cons (ps_set (i := 1) scLaw.nd rfl (Or.inr rfl) (pe_call GPeople (hr.mono (by decide)) (by rfl) T.g_People T.F_People.kp T.B_People .nil pass0 (pa_cons (pe_call GCell (hr.mono (by decide)) (by rfl) T.g_Cell T.F_Cell.kp T.B_Cell .nil pass0 (pa_cons (pv 0) (pa_cons pe_int pa_nil))) (pa_cons pe_int pa_nil))))
      (pss_cons (ps_setLc (i := 2) (own := [("_law_k", 8)]) rfl scLaw.nd rfl rfl (sw_true rfl rfl rfl (by decide +kernel)) (pi_range1 (by rfl) T.m_range (pa_cons (pe_op op_modN (pe_call GCell (hr.mono (by decide)) (by rfl) T.g_Cell T.F_Cell.kp T.B_Cell .nil pass0 (pa_cons (pv 0) (pa_cons pe_int pa_nil))) pe_int) pa_nil)) (blkOk_by (own := [("_law_k", 8)]) (N := nmLaw) (sc := defScope sLaw) (by decide +kernel)) (fun _ _ _ _ _ => (pg_name (i := 8) scLaw.nd rfl (Or.inl rfl))) (fun _ _ _ _ _ => pts_nil) (fun _ _ _ _ _ => (pe_call GLineBy (hr.mono (by decide)) (by rfl) T.g_LineBy T.F_LineBy.kp T.B_LineBy .nil pass0 (pa_cons (pe_call GCell (hr.mono (by decide)) (by rfl) T.g_Cell T.F_Cell.kp T.B_Cell .nil pass0 (pa_cons (pv 0) (pa_cons (pe_op op_add pe_int (pv 8)) pa_nil))) (pa_cons (pv 1) pa_nil)))))
      (Evl.pss_cut (ps_if (pt_cmpR op_ne (pe_op op_modN (pe_call GCell (hr.mono (by decide)) (by rfl) T.g_Cell T.F_Cell.kp T.B_Cell .nil pass0 (pa_cons (pv 0) (pa_cons pe_int pa_nil))) pe_int) pe_int (nomark _))
      (pss_cons (ps_set (i := 3) scLaw.nd rfl (Or.inl rfl) (pe_op op_modN (pe_call GCell (hr.mono (by decide)) (by rfl) T.g_Cell T.F_Cell.kp T.B_Cell .nil pass0 (pa_cons (pv 0) (pa_cons pe_int pa_nil))) (pe_op op_add (pe_callB call_len_seq (by rfl) T.m_len PySem.boot_len (pa_cons (pv 2) pa_nil)) pe_int)))
      (pss_cons (ps_set (i := 4) scLaw.nd rfl (Or.inl rfl) (pe_call GLineBy (hr.mono (by decide)) (by rfl) T.g_LineBy T.F_LineBy.kp T.B_LineBy .nil pass0 (pa_cons (pe_call GCell (hr.mono (by decide)) (by rfl) T.g_Cell T.F_Cell.kp T.B_Cell .nil pass0 (pa_cons (pv 0) (pa_cons pe_int pa_nil))) (pa_cons (pv 1) pa_nil))))
      (pss_cons (ps_set (i := 5) scLaw.nd rfl (Or.inl rfl) (pe_call GOddBy (hr.mono (by decide)) (by rfl) T.g_OddBy T.F_OddBy.kp T.B_OddBy .nil pass0 (pa_cons (pe_call GCell (hr.mono (by decide)) (by rfl) T.g_Cell T.F_Cell.kp T.B_Cell .nil pass0 (pa_cons (pv 0) (pa_cons pe_int pa_nil))) (pa_cons (pe_call GCell (hr.mono (by decide)) (by rfl) T.g_Cell T.F_Cell.kp T.B_Cell .nil pass0 (pa_cons (pv 0) (pa_cons pe_int pa_nil))) (pa_cons (pv 4) pa_nil)))))
      (pss_one (ps_set (i := 2) scLaw.nd rfl (Or.inl rfl) (pe_op op_cat (pe_op op_cat (pe_slice sl_list (pv 2) po_none (po_some (pv 3))) (pe_lst (pa_cons (pv 5) pa_nil))) (pe_slice sl_list (pv 2) (po_some (pv 3)) po_none)))))))
      pss_nil)
      (pss_cons (ps_set (i := 6) scLaw.nd rfl (Or.inl rfl) (pe_call GRowsOf (hr.mono (by decide)) (by rfl) T.g_RowsOf T.F_RowsOf.kp T.B_RowsOf .nil pass0 (pa_cons (pv 2) pa_nil)))
      (pss_cons (ps_set (i := 7) scLaw.nd rfl (Or.inl rfl) (pe_bm PySem.F.plainAttrs_str PySem.F.slot_str_join PySem.F.type_str_join mt_join pe_str (pa_cons (pe_lc (own := [("_law_line", 9)]) rfl scLaw.nd (pi_list (pv 2)) (blkOk_by (own := [("_law_line", 9)]) (N := nmLaw) (sc := defScope sLaw) (by decide +kernel)) (fun _ _ _ _ _ => (pg_name (i := 9) scLaw.nd rfl (Or.inl rfl))) (fun _ _ _ _ _ => pts_nil) (fun _ _ _ _ _ => (pe_op op_add_str (pv 9) pe_str))) pa_nil)))
      (Evl.pss_cut (ps_if (PW.pt (pw_and (pt_cmpR (XE.op_neX hr.units) (pv 2) (pe_lst pa_nil) (nomark _)) (pw_and1 (pt_cmpR op_eq (pe_op op_modN (pe_op op_fdivN (pe_call GCell (hr.mono (by decide)) (by rfl) T.g_Cell T.F_Cell.kp T.B_Cell .nil pass0 (pa_cons (pv 0) (pa_cons pe_int pa_nil))) pe_int) pe_int) pe_int (nomark _)))))
      (pss_cons (ps_set (i := 7) scLaw.nd rfl (Or.inl rfl) (pe_slice sl_str (pv 7) po_none (po_some (pe_un un_neg pe_int))))
      (pss_cons (ps_set (i := 6) scLaw.nd rfl (Or.inl rfl) pe_non)
      (pss_one (ps_if (pt_cmpR op_eq (pe_ix ix_list (pv 2) (pe_un un_neg pe_int) (fun _ _ => rfl)) pe_str (nomark _))
      (pss_one (ps_set (i := 6) scLaw.nd rfl (Or.inl rfl) (pe_call GRowsOf (hr.mono (by decide)) (by rfl) T.g_RowsOf T.F_RowsOf.kp T.B_RowsOf .nil pass0 (pa_cons (pe_slice sl_list (pv 2) po_none (po_some (pe_un un_neg pe_int))) pa_nil))))
      pss_nil))))
      pss_nil)
      (pss_cons (ps_if (pt_cmpR op_isN (pv 6) pe_non (nomark _))
      (pss_one (ps_ret (pe_call GRefused hr (by rfl) T.g_Refused T.F_Refused.kp T.B_Refused .nil pass0 (pa_cons (pv 7) pa_nil))))
      pss_nil)
      (pss_one (ps_ret (pe_call GAlike (hr.mono (by decide)) (by rfl) T.g_Alike T.F_Alike.kp T.B_Alike .nil pass0 (pa_cons (pe_call GReadT (hr.mono (by decide)) (by rfl) T.g_ReadT T.F_ReadT.kp T.B_ReadT .nil RX.passN (pa_cons (pv 7) pa_nil)) (pa_cons (pv 6) pa_nil))))))))))))), ?_⟩
    refine slots (start_Law _) ?_
    have nl : (0 : Nat) ≤ 100000 := by decide
    have l1 : (1 : Nat) ≤ 100000 := by decide
    refine B_when (s_test (v_op (v_op (v_op (v_call (g_cons (v_slot rfl) (g_cons v_con g_nil)) (sv_cell 0 rfl hS)) v_con (bi_C (show CDivN (cellAt ns 0) 9 from ⟨by decide, by decide⟩))) v_con (bi_C (show (8 : Int) ≠ 0 by decide))) v_con (bi_eq rfl))) (fun hb H1 e1 => ?_) fun hb H1 e1 => ?_
    · have b6 := fmod_in (cellAt ns 1) (m := 6) (by decide)
      refine S_retC (r_ix (S := NoStr K) (r_lst (R := NoS K 6) (ns_cons (ns_v v_con fun _ => .non) (ns_cons (ns_v v_con fun _ => .int) (ns_cons (ns_l (l_lst (g_cons v_con g_nil) l1)) (ns_cons (ns_v v_con fun _ => .bl) (ns_cons (ns_u (u_tup (g_cons v_con (g_cons v_con g_nil)) (show 2 ≤ 100000 by decide))) (ns_cons ns_d ns_nil)))))) (fun vs H1 h => by rw [h.1]; decide) fun g h => h.mono g)
        (fun H2 g => v_op (v_call (g_cons (v_slot rfl) (g_cons v_con g_nil)) (sv_cell 1 rfl ((e1.trans g).sl hS))) v_con (bi_C (show (6 : Int) ≠ 0 by decide))) (fun v H2 g ⟨p, xs, ev, hp, hb⟩ => ?_) fun g h => h.mono g) fun v H2 e2 nv => ⟨v, rfl, (e1.trans e2).tab hT, .inl nv, fun H3 _ => q H3⟩
      have ll : (xs.length : Int) = 6 := by rw [hb.1]; rfl
      have lt : ((cellAt ns 1).fmod 6).toNat < xs.length := by omega
      have mem : xs.getD ((cellAt ns 1).fmod 6).toNat V.non ∈ xs := by
        rw [List.getD_eq_getElem?_getD, List.getElem?_eq_getElem lt]
        exact List.getElem_mem _
      exact ⟨p, xs, _, ev, hp, atI_in V.non b6.1 (by omega), hb.2 _ mem⟩
    refine B_setR (r_call (g_cons (v_call (g_cons (v_slot rfl) (g_cons v_con g_nil)) (sv_cell 1 rfl (e1.sl hS))) (g_cons v_con g_nil)) (sr_peopleD 5 rfl (by decide))) fun v H2 e2 ⟨pp, ss, ev, hpp, l5, nm, _⟩ => ?_
    subst ev
    walk_at "n"
    have g2 := e1.trans e2
    have b9 := fmod_in (cellAt ns 0) (m := 9) (by decide)
    refine B_setR (r_cmpL (b := 30) (g_cons (v_op (v_call (g_cons (v_slot rfl) (g_cons v_con g_nil)) (sv_cell 0 rfl (g2.sl hS))) v_con (bi_C (show (9 : Int) ≠ 0 by decide))) g_nil) ⟨b9.1, by omega⟩ (fun _ => rfl) fun m H3 g hm => r_call (g_cons (v_call (g_cons (v_slot rfl) (g_cons (v_op v_con (v_slot rfl) bi_0) g_nil)) (sv_cell (2 + m) (by omega) ((g2.trans g).sl hS))) (g_cons (v_slot rfl) g_nil)) (sr_line (g.lst hpp) l5 nm)) fun v H3 e3 ⟨la, zs, ev, hla, lz, okz⟩ => ?_
    subst ev
    walk_at "n"
    have g3 := g2.trans e3
    have lz9 : zs.length ≤ 9 := by omega
    refine B_cut (M := fun σ' H' => ∃ (y3 y4 y5 : Option V) (la : Addr) (zs : List Str), σ' = [some (.ref a), some (.ref pp), some (.ref la), y3, y4, y5, none, none, none, none] ∧ Gr H3 H' ∧ H' la = some (.lst (zs.map V.str)) ∧ zs.length ≤ 19 ∧ ∀ z ∈ zs, Line 61 z) ?a1 ?a2
    case a1 =>
      refine S_when (s_test (v_op (v_op (v_call (g_cons (v_slot rfl) (g_cons v_con g_nil)) (sv_cell 11 rfl (g3.sl hS))) v_con (bi_C (show (4 : Int) ≠ 0 by decide))) v_con (bi_ne rfl))) (fun hb H4 e4 => ?_) fun hb H4 e4 => ⟨_, _, _, la, zs, rfl, e4, e4.lst hla, by omega, fun z hz => (okz z hz).le (by decide)⟩
      have g4 := g3.trans e4
      refine B_set (v_op (v_call (g_cons (v_slot rfl) (g_cons v_con g_nil)) (sv_cell 12 rfl (g4.sl hS))) (v_op (v_len (v_slot rfl) (SqL.of (e4.lst hla))) v_con bi_0) (bi_C (show ((zs.map V.str).length : Int) + 1 ≠ 0 by omega))) fun H5 e5 => ?_
      walk_at "n"
      generalize (cellAt ns 12).fmod (((zs.map V.str).length : Int) + 1) = pl
      have g5 := g4.trans e5
      refine B_setR (r_call (g_cons (v_call (g_cons (v_slot rfl) (g_cons v_con g_nil)) (sv_cell 13 rfl (g5.sl hS))) (g_cons (v_slot rfl) g_nil)) (sr_line (((e3.trans e4).trans e5).lst hpp) l5 nm)) fun v H6 e6 ⟨r, ev, lr⟩ => ?_
      subst ev
      walk_at "n"
      have g6 := g5.trans e6
      refine B_setR (R := LineV 61) (r_call (g_cons (v_call (g_cons (v_slot rfl) (g_cons v_con g_nil)) (sv_cell 14 rfl (g6.sl hS))) (g_cons (v_call (g_cons (v_slot rfl) (g_cons v_con g_nil)) (sv_cell 15 rfl (g6.sl hS))) (g_cons (v_slot rfl) g_nil))) fun Hx Qx Ex gx qx => ⟨_, _, r, rfl, lr, qx⟩) fun v H7 e7 ⟨od, ev, lo⟩ => ?_
      subst ev
      walk_at "n"
      have e47 := ((e4.trans e5).trans e6).trans e7
      have h7 := e47.lst hla
      obtain ⟨u1, c1, n1, m1⟩ := cut_strs zs none (some pl)
      obtain ⟨u2, c2, n2, m2⟩ := cut_strs zs (some pl) none
      refine S_setL (l_catN (l_catN (Ls.is (l_slice (v_slot rfl) p_no (p_int (v_slot rfl)) (SqL.of h7)) c1) (l_lst (vs := [V.str od]) (g_cons (v_slot rfl) g_nil) l1) (by rw [List.length_map]; simp; omega)) (Ls.is (l_slice (v_slot rfl) (p_int (v_slot rfl)) p_no (SqL.of h7)) c2) (by rw [List.length_append, List.length_map, List.length_map]; simp; omega)) fun lb H8 hlb e8 h8 => ?_
      refine ⟨_, _, _, lb, (u1 ++ [od]) ++ u2, rfl, e47.trans e8, ?_, by rw [List.length_append, List.length_append]; simp; omega, fun z hz => ?_⟩
      · rw [List.map_append, List.map_append]
        exact h8
      · rcases List.mem_append.mp hz with hz | hz
        · rcases List.mem_append.mp hz with hz | hz
          · exact (okz z (m1 z hz)).le (by decide)
          · rw [List.mem_singleton.mp hz]
            exact lo
        · exact (okz z (m2 z hz)).le (by decide)
    rintro σ' H4 ⟨y3, y4, y5, lb, ws, rfl, e4, hlb, lw, okw⟩
    have g4 := g3.trans e4
    have nlw : ∀ z ∈ ws, 10 ∉ TL.tl z := fun z hz => (okw z hz).2
    have wl : (wholeOf ws).length ≤ 1200 := Nat.le_trans (whole_len fun z hz => (okw z hz).1) (by omega)
    refine B_setR (r_call (g_cons (v_slot rfl) g_nil) (sr_due hlb (by omega) fun z hz => Nat.le_trans (okw z hz).1 (by decide))) fun dv H5 e5 due => ?_
    walk_at "n"
    have en : ("\n" : Str).length = 1 := rfl
    have eo : out (ws.map V.str).length (fun _ => true) (fun m => V.str (ws.getD m "" ++ "\n")) = (ws.map fun x : Str => x ++ "\n").map V.str := by
      rw [List.length_map]
      have := out_filter ws (fun _ => true) (fun r : Str => V.str (r ++ "\n")) (fun _ => true) (fun m => V.str (ws.getD m "" ++ "\n")) fun m x hx => by rw [List.getD_eq_getElem?_getD, hx]; exact ⟨rfl, rfl⟩
      rw [this, List.map_map, List.filter_eq_self.mpr (fun _ _ => rfl)]
      rfl
    refine B_set (v := .str (wholeOf ws)) (v_joinN v_con (eo ▸ l_cmpL (fun _ => true) (fun m => V.str (ws.getD m "" ++ "\n")) (v_slot rfl) (SqL.of (e5.lst hlb)) (by rw [List.length_map]; omega) (fun _ => rfl) (fun m x H6 e6 hx => s_yes) (fun m x H6 e6 hx _ => ?el)) ?bd) fun H6 e6 => ?_
    case el =>
      rw [List.getElem?_map] at hx
      cases er : ws[m]? with
      | none => rw [er] at hx; cases hx
      | some r =>
        rw [er] at hx
        obtain rfl := Option.some.inj hx
        have eg : ws.getD m "" = r := by rw [List.getD_eq_getElem?_getD, er]; rfl
        rw [eg]
        have := (okw r (List.mem_of_getElem? er)).1
        exact v_op (v_slot rfl) v_con (bi_cat (by rw [en]; omega))
    case bd =>
      have := sum_len (ws.map fun x : Str => x ++ "\n") 62 fun x hx => by
        obtain ⟨z, hz, rfl⟩ := List.mem_map.mp hx
        rw [cat_len, en]
        exact Nat.add_le_add_right (okw z hz).1 1
      rw [List.length_map] at this
      rw [show (("" : Str).length) = 0 from rfl, Nat.mul_zero, Nat.add_zero]
      omega
    walk_at "n"
    have g6 := (g4.trans e5).trans e6
    refine B_cut (M := fun σ' H' => ∃ (T : Str) (dv : V), σ' = [some (.ref a), some (.ref pp), some (.ref lb), y3, y4, y5, some dv, some (.str T), none, none] ∧ Gr H6 H' ∧ T.length ≤ 1200 ∧
      ((dv = .non ∧ parse T = none) ∨ ∃ (lr : Addr) (ya : List V) (l : List JRow), dv = .ref lr ∧ H' lr = some (.lst ya) ∧ TupsAt H' JRow.vs ya l ∧ parse T = some l ∧ l.length ≤ 19 ∧ ∀ r ∈ l, r.ok)) ?b1 ?b2
    case b1 =>
      have pw := parse_whole nlw
      have h6 := (e5.trans e6).lst hlb
      refine S_when (s_and (s_test (v_opN (v_slot rfl) (l_lst g_nil nl) fun py Hy hy gy => XE.bi_neNil (SqL.of (gy.lst h6)) (SqL.of hy))) fun _ => s_test (v_op (v_op (v_op (v_call (g_cons (v_slot rfl) (g_cons v_con g_nil)) (sv_cell 11 rfl (g6.sl hS))) v_con (bi_C (show CDivN (cellAt ns 11) 4 from ⟨by decide, by decide⟩))) v_con (bi_C (show (6 : Int) ≠ 0 by decide))) v_con (bi_eq rfl))) (fun hb H7 e7 => ?_) fun hb H7 e7 => ?_
      · have ne : ws ≠ [] := fun e => by rw [e] at hb; cases hb
        obtain ⟨init, last, ew⟩ : ∃ init last, ws = init ++ [last] := by
          rcases List.eq_nil_or_concat ws with h | ⟨i, l, h⟩
          · exact absurd h ne
          · exact ⟨i, l, by rw [h, List.concat_eq_append]⟩
        have pc := parse_cut ne nlw
        rw [ew, List.getLast?_append, List.dropLast_concat] at pc
        rw [← ew] at pc
        have h7 := e7.lst h6
        refine B_set (v_slS (v_slot rfl) p_no (p_int (v_neg v_con)) (by omega)) fun H8 e8 => ?_
        walk_at "n"
        refine B_set v_con fun H9 e9 => ?_
        walk_at "n"
        have e79 := (e7.trans e8).trans e9
        have h9 := e79.lst h6
        have cl := cut_len (wholeOf ws) none (some (-1))
        have lm : (ws.map V.str)[init.length]? = some (.str last) := by
          rw [ew, List.map_append, List.getElem?_append_right (by rw [List.length_map]; exact Nat.le_refl _), List.length_map, Nat.sub_self]
          rfl
        have lwl : ws.length = init.length + 1 := by rw [ew, List.length_append]; rfl
        have at1 : atI (ws.map V.str) (-1) = some (.str last) := by
          unfold atI ixN
          rw [if_neg (by decide), if_pos (by rw [List.length_map, lwl]; omega)]
          show (ws.map V.str)[((-1 : Int) + ((ws.map V.str).length : Int)).toNat]? = _
          rw [show ((-1 : Int) + ((ws.map V.str).length : Int)).toNat = init.length by rw [List.length_map, lwl]; omega]
          exact lm
        have cv : cutV (ws.map V.str) none (some (-1)) = init.map V.str := by
          have s1 : HT.sIx (ws.map V.str).length (ws.map V.str).length (some (-1)) = init.length := by
            show (if (-1 : Int) < 0 then ((-1 : Int) + ((ws.map V.str).length : Int)).toNat else min (-1 : Int).toNat (ws.map V.str).length) = _
            rw [if_pos (by decide), List.length_map, lwl]
            omega
          unfold cutV
          rw [s1, HT.sIx_none, Nat.sub_zero, List.drop_zero, ew, List.map_append]
          exact List.take_left' (List.length_map ..)
        refine S_when (s_test (v_op (v_op (v_slot rfl) (v_neg v_con) (bi_ixL (SqL.of h9) at1)) v_con (bi_eq rfl))) (fun hb2 H10 e10 => ?_) fun hb2 H10 e10 => ?_
        · have el : last = "" := V.str.inj (of_decide_eq_true hb2)
          refine S_setR (r_callN (Ls.is (l_slice (v_slot rfl) p_no (p_int (v_neg v_con)) (SqL.of (e10.lst h9))) cv) fun p H11 g11 hp11 => sr_due hp11 (by omega) fun z hz => Nat.le_trans (okw z (by rw [ew]; exact List.mem_append_left _ hz)).1 (by decide)) fun dv2 H11 e11 due2 => ⟨_, dv2, rfl, (e79.trans e10).trans e11, by omega, ?_⟩
          rcases due2 with ⟨al, rfl⟩ | ⟨al, la2, ya, rfl, b, c⟩
          · exact .inl ⟨rfl, by rw [pc, if_neg fun h => by rw [al] at h; cases h.2]⟩
          · exact .inr ⟨la2, ya, _, rfl, b, c, by rw [pc, if_pos ⟨by rw [el]; rfl, al⟩], by rw [List.length_map]; omega, ok_rows al⟩
        · refine ⟨_, _, rfl, e79.trans e10, by omega, .inl ⟨rfl, ?_⟩⟩
          rw [pc, if_neg fun h => absurd (congrArg V.str (by simpa using h.1)) (of_decide_eq_false hb2)]
      · refine ⟨_, dv, rfl, e7, wl, ?_⟩
        rcases due.mono (e6.trans e7) with ⟨al, rfl⟩ | ⟨al, la2, ya, rfl, b, c⟩
        · exact .inl ⟨rfl, by rw [pw, if_neg (by rw [al]; exact Bool.false_ne_true)]⟩
        · exact .inr ⟨la2, ya, _, rfl, b, c, by rw [pw, if_pos al], by rw [List.length_map]; omega, ok_rows al⟩
    rintro σ' H7 ⟨T', dv, rfl, e7, lT, hd⟩
    have g7 := g6.trans e7
    rcases hd with ⟨rfl, pn⟩ | ⟨lr, ya, l, rfl, hlr, tl, ps, ll, okl⟩
    · refine B_when (b := true) (Ts.is (s_test (v_op (v_slot rfl) v_con bi_isN)) rfl) (fun _ H8 e8 => ?_) fun z => nomatch z
      exact S_ret (v_call (g_cons (v_slot rfl) g_nil) fun Hx Qx Ex gx qx => ⟨_, rfl, ((e1.trans (e2.trans (e3.trans e4))).trans ((e5.trans e6).trans ((e7.trans e8).trans gx))).tab hT, .inr ⟨T', rfl, by omega, pn⟩, qx⟩) fun H9 _ => q H9
    · refine B_when (b := false) (Ts.is (s_test (v_op (v_slot rfl) v_con bi_isN)) rfl) (fun z => nomatch z) fun _ H8 e8 => ?_
      refine S_retC2 (R := fun v H9 => ∃ lx yx, v = .ref lx ∧ H9 lx = some (.lst yx) ∧ TupsAt H9 JRow.vs yx l) (r_call (g_cons (v_slot rfl) g_nil) fun Hx Qx Ex gx qx => ⟨_, rfl, ((e1.trans (e2.trans (e3.trans e4))).trans ((e5.trans e6).trans ((e7.trans e8).trans gx))).tab hT, .inr ⟨T', rfl, by omega, (fun e => by rw [ps] at e; cases e), fun l' el v Hy gy ⟨lx, yx, ev, _, hx, tx⟩ => qx v Hy gy ⟨lx, yx, ev, hx, by rw [ps] at el; cases el; exact tx⟩⟩⟩) (fun H9 g9 => v_slot rfl) fun v H9 H10 g9 g10 ⟨lx, yx, ev, hx, tx⟩ => ?_
      subst ev
      have g810 := (e8.trans g9).trans g10
      exact sv_alike (g10.lst hx) (g810.lst hlr) (tx.mono g10) (tl.mono g810) (by omega) (fun r hr => (okl r hr).good) H10 _ _ (.refl _) fun H11 _ => q H11

end
end RR
open PySem PySem.W PySem.Calls PyProof.Rows in
set_option maxHeartbeats 0 in
theorem PySem.Challenge.cw_readwriteroom_k12_texts_refused_holds : PySem.Challenge.rw_readwriteroom_k12_texts_refused.Holds := by
  w_on; o_law
  refine HandSHeadRun.head_any (r := RR.Rw) (q := view (RR.Rw).prog [45]) (H := RR.hk) (ob := RR.ob) (M := 30000) (loose := RR.loose) (d := HandSHeadRun.topDef (RR.Rw).prog 45) (kwd := []) RR.ob_is
    (by kernel_rfl) (fun s => by kernel_rfl) RR.run (by kernel_rfl) (by kernel_rfl) (by kernel_rfl) (by rfl) (by first | assumption | decide +kernel) (by decide +kernel) ⟨rfl, rfl, rfl, rfl, rfl, by decide +kernel⟩ ?hw ?hc
  case hw => w_witness2
  case hc =>
    refine LamX.walk_ofTsE (l := PySem.Challenge.rw_readwriteroom_k12_texts_refused) (n := 63) (k := 6) (x := "_law_script") (CX := fun _ => L2.CX0) rfl (by decide) (by kernel_rfl) ⟨rfl, by decide, by decide⟩ ?F (fun _ _ _ _ _ z => z)
    intro w mg fa h Y G hmg0
    obtain ⟨K, KX, c⟩ := Y
    have hmg : mg ("law" : PySem.Str) = some (.ref fa) := by
      have e : (HandSHeadRun.topDef (RR.Rw).prog 45).name = ("law" : PySem.Str) := by kernel_rfl
      rw [← e]
      exact hmg0
    obtain ⟨T, rfl, hb, eIsName⟩ := RR.facts (P := (PySem.Challenge.rw_readwriteroom_k12_texts_refused).prog) (w := w) KX G hmg c
    have mem : ∀ p ∈ ([(T.co_IsName, T.ta_IsName)] : List (Addr × Addr)), ∃ z ∈ RR.tfs, p = He.cT K z := by
      intro p hp
      simp only [List.mem_cons, List.not_mem_nil, or_false] at hp
      exact ⟨("is_name", none), by simp [RR.tfs], by rw [hp]; exact eIsName⟩
    refine ⟨K, KX, T.fd_Law, [(T.co_IsName, T.ta_IsName)], RR.spLaw K T.ta_IsName, fun p hp => ?_, fun p hp => ?_, fun p hp => ?_, hb, fun H a ns hl _ hT hS => ?_, fun base _ _ TB => ?_⟩
    · obtain ⟨z, hz, rfl⟩ := mem p hp
      exact c.empty z hz
    · obtain ⟨z, hz, rfl⟩ := mem p hp
      exact c.out z hz
    · obtain ⟨z, hz, rfl⟩ := mem p hp
      exact codeHd_of_K KX (c.hd z hz)
    · exact RR.law_pre T H a ns hl hS (fun p hp => ⟨#[], hT p hp, trivial⟩)
    · exact RR.ok_Law T ⟨RR.tab_is (TB (T.co_IsName, T.ta_IsName) (by simp))⟩

