import PyProof.Rows.All
import Wide.All
import OpenK.AllK
import Wide.FinOn
import KE.KStateDown
import HandS.ForMost
import HandS.IsInst
import HandS.AnyAll
import HandS.Steps
import HandS.Walk
import HandS.Evl
import HandS.Head0
import HandS.Head1
import HandS.Head2
import HandS.HeadEnd
import HandS.HeadHook1
import HandS.HeadHook2
import HandS.HeadHook4
import HandS.HeadWalk
import PySem.Challenge.RW_readwriteroom_k03_names_and_wishes
set_option Elab.async false
set_option linter.all false
set_option maxRecDepth 100000
/-! ### all(test for x in text), the test over the sign and the module's names -/
namespace RG
open PySem PySem.Spec PyProof.Rows L2
/-- the test of one sign: it may read the sign's name and the module's names -/
def Elt (P : Program) (w : World) (mg : Str → Option Value) (scope : Scope) (x : Str) (elt : Expr) (pb : Nat → Bool) : Prop :=
  ∀ (ev : Env) (A : Around) (E : Value → Shared → Prop) (k : Nat) (t : Tok) (s : Shared) (m : Str → Option Value), ev.scope = scope → ev.globals = mainGlobals → s.heap.Ns mainGlobals mg → s.heap.Ns ev.locals m → m x = some (.str ⟨#[k]⟩ t) →
    wpAny (model P w) A (eval elt ev) (fun y s' => y = .bool (pb k) ∧ Keeps s s') E s
/-- x in NAME, NAME a text of the module -/
theorem elt_in {P : Program} {w : World} {mg : Str → Option Value} {scope : Scope} {x N z : Str} {tk : Tok} {p1 p2 p3 : Pos} (kd : scope.kind = .function) (lx : scope.names.lookup x = some .local) (lN : scope.names.lookup N = some .globalImplicit) (hN : mg N = some (.str z tk))
    (d1 : (x == ("__debug__" : Str)) = false := by decide) (d2 : (N == ("__debug__" : Str)) = false := by decide) : Elt P w mg scope x (.Compare (.Name x p1) [.In] [.Name N p2] p3) (fun k => decide (k ∈ z.cps.toList)) := by
  intro ev A E k t s m hs hg hG hL hx
  subst hs
  refine wpAny_Compare1 (wpAny_Name (wpAny_loadName_local kd lx hL hx ?_) d1) (by rfl)
  have hG' : s.heap.Ns ev.globals mg := by
    rw [hg]
    exact hG
  refine Calls.Name_function_global kd lN (Calls.loadGlobal_global hG' hN (PyProof.Rows.in_str ⟨?_, s.heap, s.toks, rfl, fun _ _ e => e⟩)) d2
  rw [PySem.StrLaws.found_one z k]
theorem nofree {l : List (Str × NameKind)} {R : Str × NameKind → Prop} (h : (l.all fun y => decide (y.2 ≠ .free)) = true) : ∀ y ∈ l, y.2 = .free → R y := fun y hy e => absurd e (of_decide_eq_true (List.all_eq_true.mp h y hy))
section
variable {X : Cx} {pins : List (Addr × Obj)} {σ : L2.St} {H : Hp} {s : Shared} {c P : Addr} {scope : Scope} {x : Str} {elt : Expr} {pb : Nat → Bool}
/-- the code object of the generator is found in the table, or made and entered -/
theorem code_of {M : Model} {A : Around} {E : Value → Shared → Prop} {r : Shared} {ev : Env} {gp : Pos} {qn : Str} {ps : Array Value} {Q : Value → Shared → Prop} (hc : ev.code = .ref c) (hd : PySem.W.CodeHd r.heap c P) (hP : r.heap.get? P = some (PySem.W.tabObj ps)) (ok : TriplesOk ps.toList)
    (h : ∀ cd h' tk more, Heap.ExtBut P r.heap h' → r.heap.objs.size ≤ h'.objs.size → h'.get? P = some (PySem.W.tabObj (ps ++ more)) → TriplesOk (ps ++ more).toList → Q cd { r with heap := h', toks := tk }) : wpAny M A (genexprCode ev gp qn scope) Q E r := by
  cases hf : codeAmong gp ps.toList with
  | some cd =>
    have e : ps ++ #[] = ps := by simp
    refine wpAny_genexprCode_hit hc (hd.code hP ok) hf ?_
    exact h cd r.heap r.toks #[] (.refl _ _) (Nat.le_refl _) (by rw [e]; exact hP) (by rw [e]; exact ok)
  | none =>
    refine wpAny_genexprCodeX hc (hd.code hP ok) (hd.tab hP) hf ?_
    intro c1 h1 t1 ext ge lt co _ ta _
    obtain ⟨_, _, _, _, _, _, _, _, _, _, _, _, _, _, _, _, _, _, _, tr, _⟩ := co
    exact h _ h1 t1 _ ext (Nat.le_trans ge (Nat.le_of_lt lt)) ta.2 tr
theorem in_range {h : Heap} {b : Addr} {u : Obj} (e : h.get? b = some u) : b ∈ List.range h.objs.size := List.mem_range.mpr (Heap.lt_size e)
theorem pe_allG {iter : Expr} {px p pos gp : Pos} {te : TE} {k : Nat} (hr : Room k X.A) (gA : Gl X "all") (mA : X.mg "all" = none) (TB : GxR.TabB X.base X.mg c P) (hc : X.env.code = .ref c) (S : GxR.GenS X.env scope x) (hi : PE X iter te) (hel : Elt X.prog X.w X.mg scope x elt pb)
    (hs : ∀ v, genFold iter X.env v = pure v)
    (he : starEach [.GeneratorExp elt [⟨.Name x px, iter, [], 0⟩] scope gp] X.env = [(false, eval (.GeneratorExp elt [⟨.Name x px, iter, [], 0⟩] scope gp) X.env)] := by rfl) :
    PE X (.Call (.Name "all" p) [.GeneratorExp elt [⟨.Name x px, iter, [], 0⟩] scope gp] [] pos) (GxR.tAllS P pb te) := by
  constructor
  intro pins s σ H Q I h
  have bA : bootBuiltins "all" = some (.builtin "all") := PyProof.Rows.boot_all
  refine wpAny_Call_Name_kw (ld_blt I gA mA bA (PyProof.Rows.callWith_builtin1 ?_ he (by rfl)))
  rw [he]
  refine Calls.spliced_cons ?_
  refine wpAny_GeneratorExp_walksQ hr.hd S.co (closure_ok S.free) S.cell S.dot S.loc S.kind (by have := hr.dp; omega) (thn (hi.run pins s σ H _ I h) ?_) hs
  rintro xv sa ⟨v, Ha, Ia, rv, a, rfl, ⟨ps, tP, ok⟩, q⟩
  obtain ⟨ta, rfl⟩ := rv
  refine wpAny_pyIter_str ?_
  intro io St W st0
  -- the heap with the text's iterator
  have gP : sa.heap.get? P = some (PySem.W.tabObj ps) := Ia.hok P _ tP
  have up : ∀ b u, sa.heap.get? b = some u → (sa.heap.push io).get? b = some u := fun b u e => Heap.get?_push_of_some _ e
  have nl : (sa.heap.push io).NoLimit := Ia.nolimit.push io
  have szp : (sa.heap.push io).objs.size = sa.heap.objs.size + 1 := Heap.size_push ..
  refine ⟨nl, code_of hc (TB.code.keeps fun b u e => up b u (Ia.bk b u e)) (up _ _ gP) ok ?_⟩
  intro cd h3 tk more ext ge gP3 ok3
  have ge2 : sa.heap.objs.size + 1 ≤ h3.objs.size := by
    rw [← szp]
    exact ge
  have kp : ∀ b u, b ≠ P → sa.heap.get? b = some u → h3.get? b = some u := fun b u n e => ext b u n (up b u e)
  have PltA : P < sa.heap.objs.size := Heap.lt_size gP
  have nsG : h3.Ns mainGlobals X.mg := ((Ia.mod.glob.keeps Ia.bk).push io).extBut ext TB.gP
  have csP : cStatics ≠ P := by
    intro e
    obtain ⟨_, ⟨o', _, _, ho, hdd, _⟩, _⟩ := Ia.nolimit
    rw [e, gP] at ho
    cases ho
    cases hdd
  have csA : cStatics < sa.heap.objs.size := let ⟨_, hns, _⟩ := Ia.nolimit; hns.lt
  have itP : sa.heap.objs.size ≠ P := fun e => absurd PltA (by rw [e]; exact Nat.lt_irrefl _)
  obtain ⟨bm, ob, b1, b2, b3, b4, b5, b6, b7, b8⟩ := TB.bm
  refine wpAny_builtinsFor (m := X.mg) (by rw [Ia.ok.glob]; exact nsG) b1 b2 (kp _ _ b4 (Ia.bk _ _ b5)) b6 b7 b8 ?_
  refine ⟨sa.heap.objs.size, [sa.heap.objs.size], [sa.heap.objs.size], a.cps.size, SignAt a, St, fun _ => true, fun j y => ∃ k, a.cps[j]? = some k ∧ y = .bool (pb k), rfl, W, ?_, ?_, nl.extBut ext csP, ?_, ?_, ?_⟩
  · refine (W X.A hr.hd).frame _ _ _ st0 fun b hb u e => ext b u ?_ e
    rw [List.mem_singleton.mp hb]
    exact itP
  · intro b hb
    rw [List.mem_singleton.mp hb]
    exact ge2
  · intro hm
    exact Nat.ne_of_lt csA (List.mem_singleton.mp hm)
  · intro hh kh
    constructor
    · intros
      simp only [List.forIn_nil]
      exact wpAny_pure ⟨rfl, GxR.keeps_refl _⟩
    · rintro A' E' j v s2 m2 hA ⟨k, u, hk, rfl⟩ _ hn hm keep
      have G2 : s2.heap.Ns mainGlobals X.mg := by
        obtain ⟨og, es, ep, hog, r⟩ := nsG
        refine ⟨og, es, ep, keep _ (in_range hog) ?_ _ (kh _ _ hog), r⟩
        intro hm2
        have e2 := List.mem_singleton.mp hm2
        obtain ⟨o9, _, _, h9, _⟩ := Ia.mod.glob.keeps Ia.bk
        have := Heap.lt_size h9
        rw [e2] at this
        exact Nat.lt_irrefl _ this
      refine wpAny_mono (hel _ A' E' k u s2 m2 rfl Ia.ok.glob G2 hn hm) ?_ fun _ _ z => z
      rintro y s3 ⟨e, kk⟩
      exact ⟨⟨k, hk, e⟩, kk⟩
  · intro g h5 t5 gs bare _ _ k5 W5 hat
    rw [GxR.passing_true] at W5
    simp only [List.length_range] at W5
    refine Calls.spliced_nil (call_all_walkS (W5.in4_1.self 0 _ _ _ hat ⟨g, _, _, _, _, _, _, GxR.trF pb a.cps.toList, rfl, W5.in4_1, hat, ?_, ?_⟩))
    · rintro j y sj Qj Ej ⟨i, hij, k, hk, rfl⟩ hq
      obtain ⟨hj, ej⟩ := List.getElem?_eq_some_iff.mp hij
      rw [List.getElem_range] at ej
      subst ej
      rw [GxR.trF_some (b := k) (by rw [Array.getElem?_toList]; exact hk)] at hq
      exact wpAny_truthy_bool hq
    · intro s' mv
      have away : ∀ b u, sa.heap.get? b = some u → b ∉ [h3.objs.size, sa.heap.objs.size] := by
        intro b u e hm
        have l := Heap.lt_size e
        rcases List.mem_cons.mp hm with z | z
        · rw [z] at l
          exact absurd (Nat.lt_of_lt_of_le l (Nat.le_of_succ_le ge2)) (Nat.lt_irrefl _)
        · rw [List.mem_singleton.mp z] at l
          exact Nat.lt_irrefl _ l
      have J := GxR.inv_tab (more := more) (h' := s'.heap) (g' := s'.gens) (d' := s'.drawn) (t' := s'.toks) Ia tP (fun b u n e => mv.heap b u (away b u e) (k5 b u (kp b u n e))) (mv.heap P _ (away P _ gP) (k5 P _ gP3)) (AllBare.movedS (Ia.bare.push bare) mv)
      rw [GxR.sh_eta sa s' mv.os] at J
      refine ⟨.bl _, _, J, rfl, ?_⟩
      rw [GxR.all_signs a pb]
      exact q _ ⟨⟨_, upd_same, ok3⟩, fun b n => upd_ne n⟩
end
end RG

namespace RR
open PySem L2

/-! ### heaps: what is known stays; the tables of code objects may grow -/
def Gr (H H' : Hp) : Prop := ∀ a o, H a = some o → H' a = some o ∨ ∃ ps qs, o = HO.tbl ps ∧ H' a = some (.tbl qs) ∧ (TriplesOk ps.toList → TriplesOk qs.toList)
namespace Gr
theorem refl (H : Hp) : Gr H H := fun _ _ h => .inl h
theorem trans {H H1 H2 : Hp} (x : Gr H H1) (y : Gr H1 H2) : Gr H H2 := by
  intro a o h
  rcases x a o h with h1 | ⟨ps, qs, rfl, h1, t1⟩
  · exact y a o h1
  · rcases y a _ h1 with h2 | ⟨ps', qs', e, h2, t2⟩
    · exact .inr ⟨ps, qs, rfl, h2, t1⟩
    · cases e
      exact .inr ⟨ps, qs', rfl, h2, fun t => t2 (t1 t)⟩
theorem new {H : Hp} {p : Addr} {o : HO} (hp : H p = none) : Gr H (upd H p o) := fun a u h => .inl ((upd_ne (ne_of_none h hp)).trans h)
theorem chg {H H' : Hp} {p : Addr} {o : HO} (x : Gr H H') (hp : H p = none) : Gr H (upd H' p o) := by
  intro a u h
  have n : a ≠ p := ne_of_none h hp
  rcases x a u h with h1 | ⟨ps, qs, e, h1, t1⟩
  · exact .inl ((upd_ne n).trans h1)
  · exact .inr ⟨ps, qs, e, (upd_ne n).trans h1, t1⟩
theorem at_ {H H' : Hp} {a : Addr} {o : HO} (x : Gr H H') (h : H a = some o) (n : ∀ ps, o ≠ .tbl ps) : H' a = some o := by
  rcases x a o h with h1 | ⟨ps, _, e, _⟩
  · exact h1
  · exact absurd e (n ps)
theorem lst {H H' : Hp} {a : Addr} {xs : List V} (x : Gr H H') (h : H a = some (.lst xs)) : H' a = some (.lst xs) := x.at_ h fun _ e => by cases e
theorem tup {H H' : Hp} {a : Addr} {xs : List V} (x : Gr H H') (h : H a = some (.tup xs)) : H' a = some (.tup xs) := x.at_ h fun _ e => by cases e
theorem ins {H H' : Hp} {a C d : Addr} {fs : List (Str × V)} (x : Gr H H') (h : H a = some (.ins C d fs)) : H' a = some (.ins C d fs) := x.at_ h fun _ e => by cases e
theorem free {H H' : Hp} {p : Addr} (x : Gr H H') (h : H' p = none) : H p = none := by
  cases q : H p with
  | none => rfl
  | some o =>
    rcases x p o q with h1 | ⟨_, _, _, h1, _⟩ <;> (rw [h] at h1; cases h1)
theorem rd {H H' : Hp} {a : Addr} {u : HO} (x : Gr H H') (h : Rd H a u) (n : ∀ ps, u ≠ .tbl ps) : Rd H' a u := by
  rcases h with h | ⟨o, h⟩
  · exact .inl (x.at_ h n)
  · exact .inr ⟨o, x.at_ h fun _ e => by cases e⟩
theorem sl {K : PySem.W.Frag} {H H' : Hp} {a : Addr} {xs : List V} (x : Gr H H') (h : SqL K H a xs) : SqL K H' a xs := by
  rcases h with h | h
  · exact .inl (x.rd h fun _ e => by cases e)
  · exact .inr h
theorem st {K : PySem.W.Frag} {H H' : Hp} {a : Addr} {xs : List V} (x : Gr H H') (h : SqT K H a xs) : SqT K H' a xs := by
  rcases h with h | h
  · exact .inl (x.rd h fun _ e => by cases e)
  · exact .inr h
theorem tab {H H' : Hp} {P : Addr} (x : Gr H H') (h : GxR.TabG H P) : GxR.TabG H' P := by
  obtain ⟨ps, h, t⟩ := h
  rcases x P _ h with h1 | ⟨ps', qs, e, h1, t1⟩
  · exact ⟨ps, h1, t⟩
  · cases e
    exact ⟨qs, h1, t1 t⟩
theorem ofTab {H H' : Hp} {P : Addr} (h : GxR.TabG H P) (g : GxR.Tabbed P H H') : Gr H H' := by
  obtain ⟨⟨qs, h1, t1⟩, oth⟩ := g
  intro a o ha
  by_cases e : a = P
  · subst e
    obtain ⟨ps, h0, t0⟩ := h
    rw [h0] at ha
    cases ha
    exact .inr ⟨ps, qs, rfl, h1, fun _ => t1⟩
  · exact .inl ((oth a e).trans ha)
end Gr
mutual
theorem Gr.dp {K : PySem.W.Frag} {H H' : Hp} (x : Gr H H') : ∀ {v : V} {d : PyData}, Dp K H v d → Dp K H' v d
  | _, _, .non => .non
  | _, _, .bl b => .bl b
  | _, _, .int i => .int i
  | _, _, .str z => .str z
  | _, _, .lst s h => .lst (x.sl s) (Gr.dps x h)
  | _, _, .tup s h => .tup (x.st s) (Gr.dps x h)
theorem Gr.dps {K : PySem.W.Frag} {H H' : Hp} (x : Gr H H') : ∀ {vs : List V} {ds : List PyData}, DpAll K H vs ds → DpAll K H' vs ds
  | _, _, .nil => .nil
  | _, _, .cons h t => .cons (Gr.dp x h) (Gr.dps x t)
end

/-! ### what a reading gives, whatever grew meanwhile -/
def Vl (te : TE) (σ : L2.St) (H : Hp) (v : V) : Prop := ∀ (H1 : Hp) (Q : VK), Gr H H1 → (∀ H2, Gr H1 H2 → Q v H2) → te σ H1 Q
def Ls (te : TE) (σ : L2.St) (H : Hp) (xs : List V) : Prop := ∀ (H1 : Hp) (Q : VK), Gr H H1 → (∀ p H2, H1 p = none → Gr H1 H2 → H2 p = some (.lst xs) → Q (.ref p) H2) → te σ H1 Q
def Tu (te : TE) (σ : L2.St) (H : Hp) (xs : List V) : Prop := ∀ (H1 : Hp) (Q : VK), Gr H H1 → (∀ p H2, H1 p = none → Gr H1 H2 → H2 p = some (.tup xs) → Q (.ref p) H2) → te σ H1 Q
def Ts (tt : TT) (σ : L2.St) (H : Hp) (b : Bool) : Prop := ∀ (H1 : Hp) (Q : Bool → Hp → Prop), Gr H H1 → (∀ H2, Gr H1 H2 → Q b H2) → tt σ H1 Q
def Ag (ta : TA) (σ : L2.St) (H : Hp) (vs : List V) : Prop := ∀ (H1 : Hp) (Q : List V → Hp → Prop), Gr H H1 → (∀ H2, Gr H1 H2 → Q vs H2) → ta σ H1 Q
/-- any value of which R holds (data, say) -/
def Vr (te : TE) (σ : L2.St) (H : Hp) (R : V → Hp → Prop) : Prop := ∀ (H1 : Hp) (Q : VK), Gr H H1 → (∀ v H2, Gr H1 H2 → R v H2 → Q v H2) → te σ H1 Q
def Ar (ta : TA) (σ : L2.St) (H : Hp) (R : List V → Hp → Prop) : Prop := ∀ (H1 : Hp) (Q : List V → Hp → Prop), Gr H H1 → (∀ vs H2, Gr H1 H2 → R vs H2 → Q vs H2) → ta σ H1 Q
def Bi (r : R2) (x y : V) (H : Hp) (z : V) : Prop := ∀ (H1 : Hp) (Q : VK), Gr H H1 → (∀ H2, Gr H1 H2 → Q z H2) → r x y H1 Q
def SpV (sp : Sp) (vs : List V) (H : Hp) (z : V) : Prop := ∀ (H1 : Hp) (Q : VK) (E : XK), Gr H H1 → (∀ H2, Gr H1 H2 → Q z H2) → sp vs H1 Q E
def SpL (sp : Sp) (vs : List V) (H : Hp) (xs : List V) : Prop := ∀ (H1 : Hp) (Q : VK) (E : XK), Gr H H1 → (∀ p H2, H1 p = none → Gr H1 H2 → H2 p = some (.lst xs) → Q (.ref p) H2) → sp vs H1 Q E
def SpR (sp : Sp) (vs : List V) (H : Hp) (R : V → Hp → Prop) : Prop := ∀ (H1 : Hp) (Q : VK) (E : XK), Gr H H1 → (∀ v H2, Gr H1 H2 → R v H2 → Q v H2) → sp vs H1 Q E
/-- a promise's ways out: a value, a new list, anything of which R holds -/
def RV (v : V) (H : Hp) (Q : VK) : Prop := ∀ H2, Gr H H2 → Q v H2
def RL (xs : List V) (H : Hp) (Q : VK) : Prop := ∀ p H2, H p = none → Gr H H2 → H2 p = some (.lst xs) → Q (.ref p) H2
def RR_ (R : V → Hp → Prop) (H : Hp) (Q : VK) : Prop := ∀ v H2, Gr H H2 → R v H2 → Q v H2
theorem RV.mono {v : V} {H H' : Hp} {Q : VK} (k : RV v H Q) (e : Gr H H') : RV v H' Q := fun H2 e2 => k H2 (e.trans e2)
theorem RL.mono {xs : List V} {H H' : Hp} {Q : VK} (k : RL xs H Q) (e : Gr H H') : RL xs H' Q := fun p H2 hp e2 h => k p H2 (e.free hp) (e.trans e2) h
theorem RR_.mono {R : V → Hp → Prop} {H H' : Hp} {Q : VK} (k : RR_ R H Q) (e : Gr H H') : RR_ R H' Q := fun v H2 e2 h => k v H2 (e.trans e2) h
theorem small {n : Nat} (h : n ≤ 100000) : n ≤ sizeLine := Nat.le_trans h (by decide)
theorem small' {n : Nat} (h : n < 100000) : n < sizeLine := Nat.lt_of_lt_of_le h (by decide)

section
variable {K : PySem.W.Frag} {σ : L2.St} {H H' : Hp} {t1 t2 t3 : TE} {c1 c2 : TT} {x y z v : V} {r : R2} {b c : Bool}
theorem Vl.mono (h : Vl t1 σ H v) (e : Gr H H') : Vl t1 σ H' v := fun H1 Q g q => h H1 Q (e.trans g) q
theorem Ls.mono {xs : List V} (h : Ls t1 σ H xs) (e : Gr H H') : Ls t1 σ H' xs := fun H1 Q g q => h H1 Q (e.trans g) q
theorem Ts.mono (h : Ts c1 σ H b) (e : Gr H H') : Ts c1 σ H' b := fun H1 Q g q => h H1 Q (e.trans g) q
theorem Vl.toR (h : Vl t1 σ H v) : Vr t1 σ H (fun u _ => u = v) := fun H1 Q g q => h H1 Q g fun H2 g2 => q v H2 g2 rfl
theorem Ls.toR {xs : List V} (h : Ls t1 σ H xs) : Vr t1 σ H (fun u H2 => ∃ p, u = .ref p ∧ H2 p = some (.lst xs)) := fun H1 Q g q => h H1 Q g fun p H2 _ g2 e => q _ H2 g2 ⟨p, rfl, e⟩
theorem Vl.is (h : Vl t1 σ H x) (e : x = y) : Vl t1 σ H y := e ▸ h
theorem Ts.is (h : Ts c1 σ H b) (e : b = c) : Ts c1 σ H c := e ▸ h
theorem Ls.is {xs ys : List V} (h : Ls t1 σ H xs) (e : xs = ys) : Ls t1 σ H ys := e ▸ h
theorem v_slot {i : Nat} (h : σ[i]? = some (some v)) : Vl (tVar i) σ H v := fun H1 _ _ q => ⟨v, h, q H1 (.refl _)⟩
theorem v_con : Vl (tC v) σ H v := fun H1 _ _ q => q H1 (.refl _)
theorem v_op (a : Vl t1 σ H x) (d : Vl t2 σ H y) (o : Bi r x y H z) : Vl (tOp r t1 t2) σ H z := fun H1 Q g q =>
  a H1 _ g fun H2 g2 => d H2 _ (g.trans g2) fun H3 g3 => o H3 _ ((g.trans g2).trans g3) fun H4 g4 => q H4 ((g2.trans g3).trans g4)
/-- the first operand, the second: of any kind -/
theorem v_opR {R S : V → Hp → Prop} (a : Vr t1 σ H R) (mR : ∀ {v H1 H2}, Gr H1 H2 → R v H1 → R v H2) (d : ∀ x H1, Gr H H1 → R x H1 → Vr t2 σ H1 S) (o : ∀ x y H1, Gr H H1 → R x H1 → S y H1 → Bi r x y H1 z) : Vl (tOp r t1 t2) σ H z := fun H1 Q g q =>
  a H1 _ g fun x H2 g2 hx => d x H2 (g.trans g2) hx H2 _ (.refl _) fun y H3 g3 hy => o x y H3 ((g.trans g2).trans g3) (mR g3 hx) hy H3 _ (.refl _) fun H4 g4 => q H4 ((g2.trans g3).trans g4)
theorem r_op {R S : V → Hp → Prop} (a : Vl t1 σ H x) (d : Vr t2 σ H R) (o : ∀ y H1, Gr H H1 → R y H1 → ∃ z, (∀ H2, Gr H1 H2 → S z H2) ∧ Bi r x y H1 z) : Vr (tOp r t1 t2) σ H S := fun H1 Q g q =>
  a H1 _ g fun H2 g2 => d H2 _ (g.trans g2) fun y H3 g3 hy => by
    obtain ⟨z, hz, b⟩ := o y H3 ((g.trans g2).trans g3) hy
    exact b H3 _ (.refl _) fun H4 g4 => q z H4 ((g2.trans g3).trans g4) (hz H4 g4)
theorem r_opV {R S : V → Hp → Prop} (a : Vr t1 σ H R) (d : ∀ H1, Gr H H1 → Vl t2 σ H1 y) (o : ∀ x H1, Gr H H1 → R x H1 → ∃ z, (∀ H2, Gr H1 H2 → S z H2) ∧ Bi r x y H1 z) : Vr (tOp r t1 t2) σ H S := fun H1 Q g q =>
  a H1 _ g fun x H2 g2 hx => d H2 (g.trans g2) H2 _ (.refl _) fun H3 g3 => by
    obtain ⟨z, hz, b⟩ := o x H2 (g.trans g2) hx
    exact b H3 _ g3 fun H4 g4 => q z H4 ((g2.trans g3).trans g4) (hz H4 (g3.trans g4))
theorem v_opL {xs : List V} (a : Ls t1 σ H xs) (d : ∀ H1, Gr H H1 → Vl t2 σ H1 y) (o : ∀ p H1, H1 p = some (.lst xs) → Gr H H1 → Bi r (.ref p) y H1 z) : Vl (tOp r t1 t2) σ H z := fun H1 Q g q =>
  a H1 _ g fun p H2 _ g2 hp => d H2 (g.trans g2) H2 _ (.refl _) fun H3 g3 => o p H3 (g3.lst hp) ((g.trans g2).trans g3) H3 _ (.refl _) fun H4 g4 => q H4 ((g2.trans g3).trans g4)
theorem v_opN {xs : List V} (a : Vl t1 σ H x) (d : Ls t2 σ H xs) (o : ∀ p H1, H1 p = some (.lst xs) → Gr H H1 → Bi r x (.ref p) H1 z) : Vl (tOp r t1 t2) σ H z := fun H1 Q g q =>
  a H1 _ g fun H2 g2 => d H2 _ (g.trans g2) fun p H3 _ g3 hp => o p H3 hp ((g.trans g2).trans g3) H3 _ (.refl _) fun H4 g4 => q H4 ((g2.trans g3).trans g4)
theorem v_opU {xs : List V} (a : Vl t1 σ H x) (d : Tu t2 σ H xs) (o : ∀ p H1, H1 p = some (.tup xs) → Gr H H1 → Bi r x (.ref p) H1 z) : Vl (tOp r t1 t2) σ H z := fun H1 Q g q =>
  a H1 _ g fun H2 g2 => d H2 _ (g.trans g2) fun p H3 _ g3 hp => o p H3 hp ((g.trans g2).trans g3) H3 _ (.refl _) fun H4 g4 => q H4 ((g2.trans g3).trans g4)
theorem v_un {f : V → Hp → VK → Prop} (a : Vl t1 σ H x) (o : ∀ H1 (Q : VK), Gr H H1 → Q z H1 → f x H1 Q) : Vl (tUn f t1) σ H z := fun H1 Q g q =>
  a H1 _ g fun H2 g2 => o H2 _ (g.trans g2) (q H2 g2)
theorem bi_0 {f : Int → Int → V} {i j : Int} : Bi (rI0 f) (.int i) (.int j) H (f i j) := fun H1 _ _ q => ⟨i, j, rfl, rfl, q H1 (.refl _)⟩
theorem bi_C {C : Int → Int → Prop} {f : Int → Int → V} {i j : Int} (h : C i j) : Bi (rI C f) (.int i) (.int j) H (f i j) := fun H1 _ _ q => ⟨i, j, rfl, rfl, h, q H1 (.refl _)⟩
theorem bi_eq (h : scal x y = true) : Bi rEq x y H (.bl (decide (x = y))) := fun H1 _ _ q => ⟨h, q H1 (.refl _)⟩
theorem bi_ne (h : scal x y = true) : Bi rNe x y H (.bl (!decide (x = y))) := fun H1 _ _ q => ⟨h, q H1 (.refl _)⟩
theorem bi_ixL {p : Addr} {xs : List V} {i : Int} (s : SqL K H p xs) (h : atI xs i = some v) : Bi (rIxL K) (.ref p) (.int i) H v := fun H1 _ g q => ⟨p, xs, i, v, rfl, rfl, g.sl s, h, q H1 (.refl _)⟩
theorem bi_ixT {p : Addr} {xs : List V} {i : Int} (s : SqT K H p xs) (h : atI xs i = some v) : Bi (rIxT K) (.ref p) (.int i) H v := fun H1 _ g q => ⟨p, xs, i, v, rfl, rfl, g.st s, h, q H1 (.refl _)⟩
theorem bi_ixS {w : Str} {i : Int} {k : Nat} (s : w.length ≤ 100000) (h : atI w.cps.toList i = some k) : Bi rIxS (.str w) (.int i) H (.str ⟨#[k]⟩) := fun H1 _ _ q => ⟨w, i, k, rfl, rfl, small s, h, q H1 (.refl _)⟩
theorem bi_cat {u w : Str} (h : u.length + w.length ≤ 100000) : Bi (fun x y H Q => ∃ i j, x = .str i ∧ y = .str j ∧ i.length + j.length ≤ sizeLine ∧ Q (.str (i ++ j)) H) (.str u) (.str w) H (.str (u ++ w)) := fun H1 _ _ q => ⟨u, w, rfl, rfl, small h, q H1 (.refl _)⟩
theorem bi_isN : Bi (fun x y H Q => y = .non ∧ Q (.bl (decide (x = .non))) H) x .non H (.bl (decide (x = .non))) := fun H1 _ _ q => ⟨rfl, q H1 (.refl _)⟩
theorem bi_notN : Bi (fun x y H Q => y = .non ∧ Q (.bl (!decide (x = .non))) H) x .non H (.bl (!decide (x = .non))) := fun H1 _ _ q => ⟨rfl, q H1 (.refl _)⟩
theorem bi_inT {neg : Bool} {p : Addr} {xs : List V} (s : SqT K H p xs) (hx : flatV x = true) (ha : xs.all flatV = true) : Bi (rIn K neg) x (.ref p) H (.bl (if neg then !inV x xs else inV x xs)) := fun H1 _ g q => ⟨p, xs, rfl, .inr (g.st s), hx, ha, q H1 (.refl _)⟩
theorem bi_inL {neg : Bool} {p : Addr} {xs : List V} (s : SqL K H p xs) (hx : flatV x = true) (ha : xs.all flatV = true) : Bi (rIn K neg) x (.ref p) H (.bl (if neg then !inV x xs else inV x xs)) := fun H1 _ g q => ⟨p, xs, rfl, .inl (g.sl s), hx, ha, q H1 (.refl _)⟩
theorem bi_eqD {d e : PyData} (hx : Dp K H x d) (hy : Dp K H y e) (sd : SeqAt.shaped d = true) (se : SeqAt.shaped e = true) : Bi (rEqD K) x y H (.bl (PyData.eqv d e)) := fun H1 _ g q => ⟨d, e, g.dp hx, g.dp hy, sd, se, q H1 (.refl _)⟩
theorem bi_neD {d e : PyData} (hx : Dp K H x d) (hy : Dp K H y e) (sd : SeqAt.shaped d = true) (se : SeqAt.shaped e = true) : Bi (rNeD K) x y H (.bl (!PyData.eqv d e)) := fun H1 _ g q => ⟨d, e, g.dp hx, g.dp hy, sd, se, q H1 (.refl _)⟩

/-! #### tests -/
theorem s_test (h : Vl t1 σ H (.bl b)) : Ts (tTest t1) σ H b := fun H1 _ g q => h H1 _ g fun H2 g2 => ⟨b, rfl, q H2 g2⟩
theorem s_B (h : Vl t1 σ H (.bl b)) : Ts (tB t1) σ H b := fun H1 _ g q => h H1 _ g fun H2 g2 => ⟨b, rfl, q H2 g2⟩
theorem s_truB (h : Vl t1 σ H (.bl b)) : Ts (fun σ H Q => t1 σ H fun x H' => ∃ k, TruV K x H' k ∧ Q k H') σ H b := fun H1 _ g q => h H1 _ g fun H2 g2 => ⟨b, rfl, q H2 g2⟩
theorem s_truL {a : Addr} {xs : List V} (h : Vl t1 σ H (.ref a)) (s : SqL K H a xs) : Ts (fun σ H Q => t1 σ H fun x H' => ∃ k, TruV K x H' k ∧ Q k H') σ H (!xs.isEmpty) := fun H1 _ g q => h H1 _ g fun H2 g2 => ⟨_, .inl ⟨xs, (g.trans g2).sl s, rfl⟩, q H2 g2⟩
theorem s_not (h : Ts c1 σ H b) : Ts (tNot c1) σ H (!b) := fun H1 _ g q => h H1 _ g fun H2 g2 => q H2 g2
theorem s_and (h : Ts c1 σ H b) (k : b = true → Ts c2 σ H c) : Ts (tAnd c1 c2) σ H (b && c) := fun H1 Q g q => h H1 _ g fun H2 g2 => by
  cases b
  · exact iteF (q H2 g2)
  · exact iteT (k rfl H2 _ (g.trans g2) fun H3 g3 => q H3 (g2.trans g3))
theorem s_or (h : Ts c1 σ H b) (k : b = false → Ts c2 σ H c) : Ts (tOr c1 c2) σ H (b || c) := fun H1 Q g q => h H1 _ g fun H2 g2 => by
  cases b
  · exact iteF (k rfl H2 _ (g.trans g2) fun H3 g3 => q H3 (g2.trans g3))
  · exact iteT (q H2 g2)
theorem v_chain {r' : R2} (a : Vl t1 σ H x) (d : Vl t2 σ H y) (o : Bi r x y H (.bl b)) (k : b = true → Vl t3 σ H z) (o2 : b = true → Bi r' y z H (.bl c)) : Vl (tChain r r' t1 t2 t3) σ H (.bl (b && c)) := fun H1 Q g q =>
  a H1 _ g fun H2 g2 => d H2 _ (g.trans g2) fun H3 g3 => o H3 _ ((g.trans g2).trans g3) fun H4 g4 => ⟨b, rfl, by
    cases b
    · exact iteF (q H4 ((g2.trans g3).trans g4))
    · exact iteT (k rfl H4 _ (((g.trans g2).trans g3).trans g4) fun H5 g5 => o2 rfl H5 _ ((((g.trans g2).trans g3).trans g4).trans g5) fun H6 g6 => q H6 ((((g2.trans g3).trans g4).trans g5).trans g6))⟩
theorem v_and (h : Vl t1 σ H (.bl b)) (k : b = true → Vl t2 σ H (.bl c)) : Vl (tAndV t1 t2) σ H (.bl (b && c)) := fun H1 Q g q => h H1 _ g fun H2 g2 => ⟨b, rfl, by
  cases b
  · exact iteF (q H2 g2)
  · exact iteT (k rfl H2 _ (g.trans g2) fun H3 g3 => q H3 (g2.trans g3))⟩
theorem v_or (h : Vl t1 σ H (.bl b)) (k : b = false → Vl t2 σ H (.bl c)) : Vl (tOrV t1 t2) σ H (.bl (b || c)) := fun H1 Q g q => h H1 _ g fun H2 g2 => ⟨b, rfl, by
  cases b
  · exact iteF (k rfl H2 _ (g.trans g2) fun H3 g3 => q H3 (g2.trans g3))
  · exact iteT (q H2 g2)⟩
theorem v_not (h : Vl t1 σ H (.bl b)) : Vl (tNotV t1) σ H (.bl (!b)) := fun H1 _ g q => h H1 _ g fun H2 g2 => ⟨b, rfl, q H2 g2⟩
theorem v_if (h : Ts c1 σ H b) (k1 : b = true → Vl t1 σ H v) (k2 : b = false → Vl t2 σ H v) : Vl (tIf c1 t1 t2) σ H v := fun H1 Q g q => h H1 _ g fun H2 g2 => by
  cases b
  · exact iteF (k2 rfl H2 _ (g.trans g2) fun H3 g3 => q H3 (g2.trans g3))
  · exact iteT (k1 rfl H2 _ (g.trans g2) fun H3 g3 => q H3 (g2.trans g3))

/-! #### arguments, calls, new objects -/
variable {a1 : TA} {vs xs : List V}
theorem g_nil : Ag tNil σ H [] := fun H1 _ _ q => q H1 (.refl _)
theorem g_cons (h : Vl t1 σ H x) (k : Ag a1 σ H vs) : Ag (tCons t1 a1) σ H (x :: vs) := fun H1 _ g q => h H1 _ g fun H2 g2 => k H2 _ (g.trans g2) fun H3 g3 => q H3 (g2.trans g3)
theorem l_lst (h : Ag a1 σ H vs) (n : vs.length ≤ 100000) : Ls (tLst a1) σ H vs := fun H1 _ g q => h H1 _ g fun H2 g2 => ⟨small n, fun p hp => q p _ (g2.free hp) (g2.trans (.new hp)) upd_same⟩
theorem u_tup (h : Ag a1 σ H vs) (n : vs.length ≤ 100000) : Tu (tTup a1) σ H vs := fun H1 _ g q => h H1 _ g fun H2 g2 => ⟨small n, fun p hp => q p _ (g2.free hp) (g2.trans (.new hp)) upd_same⟩
theorem v_call {sp : Sp} {ds : List V} {E : XK} (h : Ag a1 σ H vs) (k : SpV sp (vs ++ ds) H z) : Vl (tCall sp ds E a1) σ H z := fun H1 _ g q => h H1 _ g fun H2 g2 => k H2 _ _ (g.trans g2) fun H3 g3 => q H3 (g2.trans g3)
theorem l_call {sp : Sp} {ds : List V} {E : XK} (h : Ag a1 σ H vs) (k : SpL sp (vs ++ ds) H xs) : Ls (tCall sp ds E a1) σ H xs := fun H1 _ g q => h H1 _ g fun H2 g2 => k H2 _ _ (g.trans g2) fun p H3 hp g3 e => q p H3 (g2.free hp) (g2.trans g3) e
theorem r_call {sp : Sp} {ds : List V} {E : XK} {R : V → Hp → Prop} (h : Ag a1 σ H vs) (k : SpR sp (vs ++ ds) H R) : Vr (tCall sp ds E a1) σ H R := fun H1 _ g q => h H1 _ g fun H2 g2 => k H2 _ _ (g.trans g2) fun v H3 g3 e => q v H3 (g2.trans g3) e
/-- a built-in's call, by its reading -/
theorem v_blt {f : List V → Hp → VK → Prop} (h : Ag a1 σ H vs) (k : ∀ H1 (Q : VK), Gr H H1 → (∀ H2, Gr H1 H2 → Q z H2) → f vs H1 Q) : Vl (tCB f a1) σ H z := fun H1 _ g q => h H1 _ g fun H2 g2 => k H2 _ (g.trans g2) fun H3 g3 => q H3 (g2.trans g3)
theorem l_blt {f : List V → Hp → VK → Prop} (h : Ag a1 σ H vs) (k : ∀ H1 (Q : VK), Gr H H1 → (∀ p H2, H1 p = none → Gr H1 H2 → H2 p = some (.lst xs) → Q (.ref p) H2) → f vs H1 Q) : Ls (tCB f a1) σ H xs := fun H1 _ g q => h H1 _ g fun H2 g2 => k H2 _ (g.trans g2) fun p H3 hp g3 e => q p H3 (g2.free hp) (g2.trans g3) e
abbrev fLen (K : PySem.W.Frag) : List V → Hp → VK → Prop := fun xs H Q => ∃ p ys, xs = [.ref p] ∧ (SqL K H p ys ∨ SqT K H p ys) ∧ Q (.int ys.length) H
theorem v_len {p : Addr} {xs : List V} (h : Vl t1 σ H (.ref p)) (s : SqL K H p xs) : Vl (tCB (fLen K) (tCons t1 tNil)) σ H (.int xs.length) := v_blt (g_cons h g_nil) fun H1 _ g q => ⟨p, xs, rfl, .inl (g.sl s), q H1 (.refl _)⟩
theorem v_lenS {w : Str} (h : Vl t1 σ H (.str w)) (s : w.length ≤ 100000) : Vl (tCB (fun xs H Q => ∃ z, xs = [.str z] ∧ z.length ≤ sizeLine ∧ Q (.int z.length) H) (tCons t1 tNil)) σ H (.int w.length) := v_blt (g_cons h g_nil) fun H1 _ _ q => ⟨w, rfl, small s, q H1 (.refl _)⟩
theorem v_isi {w : V} {u t : Value} (h : Vl t1 σ H x) (h2 : Vl t2 σ H w) (k : ClsV w u) (ty : ∀ H1, Gr H H1 → TyX K H1 x t) (e : PySem.W.kitOne K t u = some b) : Vl (tCB (rIsi K) (tCons t1 (tCons t2 tNil))) σ H (.bl b) := v_blt (g_cons h (g_cons h2 g_nil)) fun H1 _ g q => ⟨x, w, t, u, b, rfl, k, ty H1 g, e, q H1 (.refl _)⟩
theorem v_isbB (h : Vl t1 σ H (.bl b)) : Vl (tCB (rIsi K) (tCons t1 (tCons (tC (.ty "bool")) tNil))) σ H (.bl true) := v_isi h v_con (.ty _) (fun _ _ => .base (.bl b)) (kit_ty (by decide +kernel))
theorem v_isiI {i : Int} (h : Vl t1 σ H (.int i)) : Vl (tCB (rIsi K) (tCons t1 (tCons (tC (.ty "int")) tNil))) σ H (.bl true) := v_isi h v_con (.ty _) (fun _ _ => .base (.int i)) (kit_ty (by decide +kernel))
theorem v_isbI {i : Int} (h : Vl t1 σ H (.int i)) : Vl (tCB (rIsi K) (tCons t1 (tCons (tC (.ty "bool")) tNil))) σ H (.bl false) := v_isi h v_con (.ty _) (fun _ _ => .base (.int i)) (kit_ty (by decide +kernel))
theorem v_isiN (h : Vl t1 σ H .non) : Vl (tCB (rIsi K) (tCons t1 (tCons (tC (.ty "int")) tNil))) σ H (.bl false) := v_isi h v_con (.ty _) (fun _ _ => .base .non) (kit_ty (by decide +kernel))
theorem v_issS {w : Str} (h : Vl t1 σ H (.str w)) : Vl (tCB (rIsi K) (tCons t1 (tCons (tC (.ty "str")) tNil))) σ H (.bl true) := v_isi h v_con (.ty _) (fun _ _ => .base (.str w)) (kit_ty (by decide +kernel))
theorem v_max {i j : Int} (h : Vl t1 σ H (.int i)) (h2 : Vl t2 σ H (.int j)) : Vl (tCB (fun xs H Q => ∃ i j, xs = [.int i, .int j] ∧ Q (.int (if j > i then j else i)) H) (tCons t1 (tCons t2 tNil))) σ H (.int (if j > i then j else i)) := v_blt (g_cons h (g_cons h2 g_nil)) fun H1 _ _ q => ⟨i, j, rfl, q H1 (.refl _)⟩
theorem v_min {i j : Int} (h : Vl t1 σ H (.int i)) (h2 : Vl t2 σ H (.int j)) : Vl (tCB (fun xs H Q => ∃ i j, xs = [.int i, .int j] ∧ Q (.int (if j < i then j else i)) H) (tCons t1 (tCons t2 tNil))) σ H (.int (if j < i then j else i)) := v_blt (g_cons h (g_cons h2 g_nil)) fun H1 _ _ q => ⟨i, j, rfl, q H1 (.refl _)⟩
theorem v_str {i : Int} (h : Vl t1 σ H (.int i)) (n : i.natAbs.log2 < 1920) : Vl (tCB (fun xs H Q => ∃ i, xs = [.int i] ∧ i.natAbs.log2 < 1920 ∧ Q (.str (toString i)) H) (tCons t1 tNil)) σ H (.str (toString i)) := v_blt (g_cons h g_nil) fun H1 _ _ q => ⟨i, rfl, n, q H1 (.refl _)⟩
theorem v_intB (h : Vl t1 σ H (.bl b)) : Vl (tCB (fun xs H Q => (∃ i, xs = [.int i] ∧ Q (.int i) H) ∨ ∃ k, xs = [.bl k] ∧ Q (.int (if k then 1 else 0)) H) (tCons t1 tNil)) σ H (.int (if b then 1 else 0)) := v_blt (g_cons h g_nil) fun H1 _ _ q => .inr ⟨b, rfl, q H1 (.refl _)⟩
theorem l_list {p : Addr} {xs : List V} (h : Vl t1 σ H (.ref p)) (s : SqL K H p xs) : Ls (tCB (fun xs H Q => ∃ p ys, xs = [.ref p] ∧ (SqL K H p ys ∨ SqT K H p ys) ∧ ∀ l, H l = none → Q (.ref l) (upd H l (.lst ys))) (tCons t1 tNil)) σ H xs :=
  l_blt (g_cons h g_nil) fun _ _ g q => ⟨p, xs, rfl, .inl (g.sl s), fun l hl => q l _ hl (.new hl) upd_same⟩
/-- slices -/
def Pt (to : TO) (σ : L2.St) (H : Hp) (o : Option Int) : Prop := ∀ (H1 : Hp) (Q : Option Int → Hp → Prop), Gr H H1 → (∀ H2, Gr H1 H2 → Q o H2) → to σ H1 Q
theorem p_no : Pt tNoPart σ H none := fun H1 _ _ q => q H1 (.refl _)
theorem p_int {i : Int} (h : Vl t1 σ H (.int i)) : Pt (tPart t1) σ H (some i) := fun H1 _ g q => h H1 _ g fun H2 g2 => ⟨i, rfl, q H2 g2⟩
theorem l_slice {tl th : TO} {a : Addr} {xs : List V} {lo hi : Option Int} (h : Vl t1 σ H (.ref a)) (h1 : Pt tl σ H lo) (h2 : Pt th σ H hi) (s : SqL K H a xs) : Ls (tSl (rSlL K) t1 tl th) σ H (cutV xs lo hi) := fun H1 _ g q =>
  h H1 _ g fun H2 g2 => h1 H2 _ (g.trans g2) fun H3 g3 => h2 H3 _ ((g.trans g2).trans g3) fun H4 g4 => ⟨a, xs, rfl, (((g.trans g2).trans g3).trans g4).sl s, fun p hp => q p _ (((g2.trans g3).trans g4).free hp) (((g2.trans g3).trans g4).trans (.new hp)) upd_same⟩

/-! #### statements; S..: the last one, B..: something behind it -/
variable {D : Ends} {u1 u2 u3 : TS} {g1 : TG} {i : Nat}
theorem S_ret (h : Vl t1 σ H v) (k : ∀ H1, Gr H H1 → D.rt v H1) : tRet t1 D σ H := h H _ (.refl _) k
theorem S_retL (h : Ls t1 σ H xs) (k : ∀ p H1, H p = none → Gr H H1 → H1 p = some (.lst xs) → D.rt (.ref p) H1) : tRet t1 D σ H := h H _ (.refl _) k
theorem S_retR {R : V → Hp → Prop} (h : Vr t1 σ H R) (k : ∀ v H1, Gr H H1 → R v H1 → D.rt v H1) : tRet t1 D σ H := h H _ (.refl _) k
theorem S_set (h : Vl t1 σ H v) (k : ∀ H1, Gr H H1 → D.nx (σ.set i (some v)) H1) : tAsg t1 (gName i) D σ H := h H _ (.refl _) k
theorem S_setL (h : Ls t1 σ H xs) (k : ∀ p H1, H p = none → Gr H H1 → H1 p = some (.lst xs) → D.nx (σ.set i (some (.ref p))) H1) : tAsg t1 (gName i) D σ H := h H _ (.refl _) k
theorem S_setU (h : Tu t1 σ H xs) (k : ∀ p H1, H p = none → Gr H H1 → H1 p = some (.tup xs) → D.nx (σ.set i (some (.ref p))) H1) : tAsg t1 (gName i) D σ H := h H _ (.refl _) k
theorem S_setR {R : V → Hp → Prop} (h : Vr t1 σ H R) (k : ∀ v H1, Gr H H1 → R v H1 → D.nx (σ.set i (some v)) H1) : tAsg t1 (gName i) D σ H := h H _ (.refl _) k
theorem S_drop (h : Vl t1 σ H v) (k : ∀ H1, Gr H H1 → D.nx σ H1) : tDrop t1 D σ H := h H _ (.refl _) k
theorem S_if (h : Ts c1 σ H b) (k1 : b = true → ∀ H1, Gr H H1 → u1 D σ H1) (k2 : b = false → ∀ H1, Gr H H1 → u2 D σ H1) : tIfS c1 u1 u2 D σ H := h H _ (.refl _) fun H1 g => by
  cases b
  · exact iteF (k2 rfl H1 g)
  · exact iteT (k1 rfl H1 g)
theorem B_set (h : Vl t1 σ H v) (k : ∀ H1, Gr H H1 → u1 D (σ.set i (some v)) H1) : tSeq (tAsg t1 (gName i)) u1 D σ H := S_set (D := { D with nx := u1 D }) h k
theorem B_setL (h : Ls t1 σ H xs) (k : ∀ p H1, H p = none → Gr H H1 → H1 p = some (.lst xs) → u1 D (σ.set i (some (.ref p))) H1) : tSeq (tAsg t1 (gName i)) u1 D σ H := S_setL (D := { D with nx := u1 D }) h k
theorem B_setU (h : Tu t1 σ H xs) (k : ∀ p H1, H p = none → Gr H H1 → H1 p = some (.tup xs) → u1 D (σ.set i (some (.ref p))) H1) : tSeq (tAsg t1 (gName i)) u1 D σ H := S_setU (D := { D with nx := u1 D }) h k
theorem B_setR {R : V → Hp → Prop} (h : Vr t1 σ H R) (k : ∀ v H1, Gr H H1 → R v H1 → u1 D (σ.set i (some v)) H1) : tSeq (tAsg t1 (gName i)) u1 D σ H := S_setR (D := { D with nx := u1 D }) h k
theorem B_drop (h : Vl t1 σ H v) (k : ∀ H1, Gr H H1 → u1 D σ H1) : tSeq (tDrop t1) u1 D σ H := S_drop (D := { D with nx := u1 D }) h k
theorem B_if (h : Ts c1 σ H b) (k1 : b = true → ∀ H1, Gr H H1 → u1 { D with nx := u3 D } σ H1) (k2 : b = false → ∀ H1, Gr H H1 → u2 { D with nx := u3 D } σ H1) : tSeq (tIfS c1 u1 u2) u3 D σ H := S_if (D := { D with nx := u3 D }) h k1 k2
theorem B_when (h : Ts c1 σ H b) (k1 : b = true → ∀ H1, Gr H H1 → u1 { D with nx := u3 D } σ H1) (k2 : b = false → ∀ H1, Gr H H1 → u3 D σ H1) : tSeq (tIfS c1 u1 tNext) u3 D σ H := S_if (D := { D with nx := u3 D }) h k1 k2
theorem S_when (h : Ts c1 σ H b) (k1 : b = true → ∀ H1, Gr H H1 → u1 D σ H1) (k2 : b = false → ∀ H1, Gr H H1 → D.nx σ H1) : tIfS c1 u1 tNext D σ H := S_if h k1 k2
/-- a slot set anew in an if without else, told by what it holds behind -/
theorem S_whenSet (h : Ts c1 σ H b) (hy : σ[i]? = some (some y)) (k1 : b = true → Vl t1 σ H v) (hv : b = false → v = y) (k : ∀ H1, Gr H H1 → D.nx (σ.set i (some v)) H1) : tIfS c1 (tAsg t1 (gName i)) tNext D σ H :=
  S_when h (fun hb H1 g => S_set ((k1 hb).mono g) fun H2 g2 => k H2 (g.trans g2)) fun hb H1 g => by
    obtain ⟨hi, e2⟩ := List.getElem?_eq_some_iff.mp hy
    have h2 := k H1 g
    rw [hv hb, ← e2, List.set_getElem_self hi] at h2
    exact h2
theorem B_whenSet (h : Ts c1 σ H b) (hy : σ[i]? = some (some y)) (k1 : b = true → Vl t1 σ H v) (hv : b = false → v = y) (k : ∀ H1, Gr H H1 → u3 D (σ.set i (some v)) H1) : tSeq (tIfS c1 (tAsg t1 (gName i)) tNext) u3 D σ H := S_whenSet (D := { D with nx := u3 D }) h hy k1 hv k
theorem B_whenInt {m n : Int} (h : Ts c1 σ H b) (hy : σ[i]? = some (some (.int n))) (k1 : Vl t1 σ H (.int m)) (k : ∀ H1, Gr H H1 → u3 D (σ.set i (some (.int (if b = true then m else n)))) H1) : tSeq (tIfS c1 (tAsg t1 (gName i)) tNext) u3 D σ H :=
  B_whenSet h hy (fun hb => k1.is (by rw [if_pos hb])) (fun hb => by rw [if_neg (by rw [hb]; exact Bool.false_ne_true)]) k
theorem B_cut {M : L2.St → Hp → Prop} (h : u1 { D with nx := M } σ H) (k : ∀ σ' H', M σ' H' → u2 D σ' H') : Evl.tCut u1 u2 D σ H := ⟨M, h, k⟩
/-- xs.append(e), the list known by its place -/
theorem S_app {l : Addr} {xs : List V} (hl : H l = some (.lst xs)) (a : Vl t1 σ H (.ref l)) (h : Vl t2 σ H v) (n : xs.length < 100000) (k : ∀ H1, Gr H H1 → D.nx σ (upd H1 l (.lst (xs ++ [v])))) : tDrop (tBM K "list" rAppend t1 (tCons t2 tNil)) D σ H := a H _ (.refl _) fun H1 g =>
  ⟨.inl ⟨rfl, xs, SqL.of (g.lst hl)⟩, h H1 _ g fun H2 g2 => ⟨l, xs, v, rfl, rfl, g2.lst (g.lst hl), small' n, k H2 (g.trans g2)⟩⟩
theorem S_appU {l : Addr} {xs ys : List V} (hl : H l = some (.lst xs)) (a : Vl t1 σ H (.ref l)) (h : Tu t2 σ H ys) (n : xs.length < 100000) (k : ∀ p H1, H p = none → Gr H H1 → H1 p = some (.tup ys) → D.nx σ (upd H1 l (.lst (xs ++ [.ref p])))) : tDrop (tBM K "list" rAppend t1 (tCons t2 tNil)) D σ H := a H _ (.refl _) fun H1 g =>
  ⟨.inl ⟨rfl, xs, SqL.of (g.lst hl)⟩, h H1 _ g fun p H2 hp g2 e => ⟨l, xs, .ref p, rfl, rfl, g2.lst (g.lst hl), small' n, k p H2 (g.free hp) (g.trans g2) e⟩⟩

/-! #### loops -/
theorem S_for1 {j : Nat} {n : Int} (h : Ag a1 σ H [.int n]) (hn : 0 ≤ n ∧ n ≤ 100000) (Pv : Nat → L2.St → Hp → Prop) (h0 : ∀ H1, Gr H H1 → Pv 0 σ H1)
    (hs : ∀ (m : Nat) σ' H', (m : Int) < n → Pv m σ' H' → u1 { D with nx := Pv (m + 1), ct := Pv (m + 1), bk := D.nx } (σ'.set j (some (.int (m : Int)))) H') (hd : ∀ σ' H', Pv n.toNat σ' H' → D.nx σ' H') : tFor (iRng1 a1) (gName j) u1 D σ H :=
  h H _ (.refl _) fun H1 g => ⟨n, rfl, by omega, by omega, for_range (lo := 0) (n := n.toNat) Pv (h0 H1 g) (fun m σ' H' hm p => by
    have q := hs m σ' H' (by omega) p
    rw [← Int.zero_add (m : Int)] at q
    exact q) hd⟩
theorem B_for1 {j : Nat} {n : Int} (h : Ag a1 σ H [.int n]) (hn : 0 ≤ n ∧ n ≤ 100000) (Pv : Nat → L2.St → Hp → Prop) (h0 : ∀ H1, Gr H H1 → Pv 0 σ H1)
    (hs : ∀ (m : Nat) σ' H', (m : Int) < n → Pv m σ' H' → u1 { D with nx := Pv (m + 1), ct := Pv (m + 1), bk := u2 D } (σ'.set j (some (.int (m : Int)))) H') (hd : ∀ σ' H', Pv n.toNat σ' H' → u2 D σ' H') : tSeq (tFor (iRng1 a1) (gName j) u1) u2 D σ H :=
  S_for1 (D := { D with nx := u2 D }) h hn Pv h0 hs hd
theorem S_forL {a : Addr} {xs : List V} (h : Vl t1 σ H (.ref a)) (s : SqL K H a xs) (Pv : Nat → L2.St → Hp → Prop) (h0 : ∀ H1, Gr H H1 → Pv 0 σ H1) (hl : ∀ m σ' H', m ≤ xs.length → Pv m σ' H' → SqL K H' a xs)
    (hs : ∀ m x σ' H', xs[m]? = some x → Pv m σ' H' → g1 x σ' H' fun σ2 H2 => u1 { D with nx := Pv (m + 1), ct := Pv (m + 1), bk := D.nx } σ2 H2) (hd : ∀ σ' H', Pv xs.length σ' H' → D.nx σ' H') : tFor (iList K t1) g1 u1 D σ H :=
  h H _ (.refl _) fun H1 g => ⟨a, rfl, ⟨xs, g.sl s⟩, for_list Pv (h0 H1 g) hl hs hd⟩
theorem B_forL {a : Addr} {xs : List V} (h : Vl t1 σ H (.ref a)) (s : SqL K H a xs) (Pv : Nat → L2.St → Hp → Prop) (h0 : ∀ H1, Gr H H1 → Pv 0 σ H1) (hl : ∀ m σ' H', m ≤ xs.length → Pv m σ' H' → SqL K H' a xs)
    (hs : ∀ m x σ' H', xs[m]? = some x → Pv m σ' H' → g1 x σ' H' fun σ2 H2 => u1 { D with nx := Pv (m + 1), ct := Pv (m + 1), bk := u2 D } σ2 H2) (hd : ∀ σ' H', Pv xs.length σ' H' → u2 D σ' H') : tSeq (tFor (iList K t1) g1 u1) u2 D σ H :=
  S_forL (D := { D with nx := u2 D }) h s Pv h0 hl hs hd
theorem S_while (W : Nat → L2.St → Hp → Prop) (m0 : Nat) (h0 : W m0 σ H)
    (hs : ∀ m σ' H', W m σ' H' → ∃ b, Ts c1 σ' H' b ∧ (b = true → ∀ H1, Gr H' H1 → ∃ N : L2.St → Hp → Prop, (∀ σ2 H2, N σ2 H2 → ∃ m', m' < m ∧ W m' σ2 H2) ∧ u1 { D with nx := N, ct := N, bk := D.nx } σ' H1) ∧ (b = false → ∀ H1, Gr H' H1 → D.nx σ' H1)) : tWhile c1 u1 D σ H :=
  ⟨W, ⟨m0, h0⟩, fun m σ' H' hw => by
    obtain ⟨b, hb, y1, n1⟩ := hs m σ' H' hw
    refine hb H' _ (.refl _) fun H1 g => ?_
    cases b
    · exact n1 rfl H1 g
    · exact y1 rfl H1 g⟩
theorem B_while (W : Nat → L2.St → Hp → Prop) (m0 : Nat) (h0 : W m0 σ H)
    (hs : ∀ m σ' H', W m σ' H' → ∃ b, Ts c1 σ' H' b ∧ (b = true → ∀ H1, Gr H' H1 → ∃ N : L2.St → Hp → Prop, (∀ σ2 H2, N σ2 H2 → ∃ m', m' < m ∧ W m' σ2 H2) ∧ u1 { D with nx := N, ct := N, bk := u2 D } σ' H1) ∧ (b = false → ∀ H1, Gr H' H1 → u2 D σ' H1)) : tSeq (tWhile c1 u1) u2 D σ H :=
  S_while (D := { D with nx := u2 D }) W m0 h0 hs

/-! #### comprehensions: the turns that give, and what they give -/
def out (n : Nat) (f : Nat → Bool) (val : Nat → V) : List V := ((List.range n).filter f).map val
theorem out_succ (n : Nat) (f : Nat → Bool) (val : Nat → V) : out (n + 1) f val = out n f val ++ (if f n = true then [val n] else []) := by
  unfold out
  rw [List.range_succ, List.filter_append, List.map_append, List.filter_cons]
  cases f n <;> rfl
theorem out_le (n : Nat) (f : Nat → Bool) (val : Nat → V) : (out n f val).length ≤ n := by
  unfold out
  rw [List.length_map]
  exact Nat.le_trans (List.length_filter_le _ _) (Nat.le_of_eq List.length_range)
def Cmp (H : Hp) (f : Nat → Bool) (val : Nat → V) (p : Addr) (m : Nat) (H' : Hp) : Prop := H p = none ∧ Gr H H' ∧ H' p = some (.lst (out m f val))
theorem Cmp.turn {f : Nat → Bool} {val : Nat → V} {p : Addr} {m : Nat} {σ2 : L2.St} (w : Cmp H f val p m H') (hm : m < 50000) (ht : Ts c1 σ2 H (f m)) (he : f m = true → Vl t1 σ2 H (val m)) :
    c1 σ2 H' fun b H3 => if b = true then t1 σ2 H3 fun y H4 => ∃ acc, H4 p = some (.lst acc) ∧ acc.length < sizeLine ∧ Cmp H f val p (m + 1) (upd H4 p (.lst (acc ++ [y]))) else Cmp H f val p (m + 1) H3 := by
  obtain ⟨w1, w2, w3⟩ := w
  refine ht H' _ w2 fun H3 g3 => ?_
  have o := out_succ m f val
  cases hf : f m
  · rw [hf] at o
    refine iteF ⟨w1, w2.trans g3, ?_⟩
    rw [o, if_neg Bool.false_ne_true, List.append_nil]
    exact g3.lst w3
  · rw [hf, if_pos rfl] at o
    refine iteT (he hf H3 _ (w2.trans g3) fun H4 g4 => ⟨out m f val, g4.lst (g3.lst w3), small' (by have := out_le m f val; omega), w1, ((w2.trans g3).trans g4).chg w1, ?_⟩)
    rw [o]
    exact upd_same
theorem l_cmp1 {j : Nat} {ws : List Nat} {n : Int} (f : Nat → Bool) (val : Nat → V) (h : Ag a1 σ H [.int n]) (hn : 0 ≤ n ∧ n ≤ 40000) (hw : ∀ x, wipe ((wipe σ ws).set j (some x)) ws = wipe σ ws)
    (ht : ∀ (m : Nat) H1, Gr H H1 → (m : Int) < n → Ts c1 ((wipe σ ws).set j (some (.int (m : Int)))) H1 (f m)) (he : ∀ (m : Nat) H1, Gr H H1 → (m : Int) < n → f m = true → Vl t1 ((wipe σ ws).set j (some (.int (m : Int)))) H1 (val m)) :
    Ls (tLc (iRng1 a1) (gName j) c1 t1 ws) σ H (out n.toNat f val) := fun H0 Q g q => h H0 _ g fun H1 g1 => ⟨n, rfl, by omega, by omega, fun p hp =>
  lc_range (lo := 0) (n := n.toNat) (Cmp H1 f val p) ⟨hp, .new hp, upd_same⟩ (fun m H' hm w => by
    have t := ht m H1 (g.trans g1) (by omega)
    have e := he m H1 (g.trans g1) (by omega)
    rw [← Int.zero_add (m : Int)] at t e
    exact ⟨hw _, w.turn (by omega) t e⟩) fun H' w => q p H' (g1.free w.1) (g1.trans w.2.1) w.2.2⟩
theorem l_cmpL {a : Addr} {xs : List V} {j : Nat} {ws : List Nat} (f : Nat → Bool) (val : Nat → V) (h : Vl t2 σ H (.ref a)) (s : SqL K H a xs) (hz : xs.length ≤ 40000) (hw : ∀ x, wipe ((wipe σ ws).set j (some x)) ws = wipe σ ws)
    (ht : ∀ (m : Nat) (x : V) H1, Gr H H1 → xs[m]? = some x → Ts c1 ((wipe σ ws).set j (some x)) H1 (f m)) (he : ∀ (m : Nat) (x : V) H1, Gr H H1 → xs[m]? = some x → f m = true → Vl t1 ((wipe σ ws).set j (some x)) H1 (val m)) :
    Ls (tLc (iList K t2) (gName j) c1 t1 ws) σ H (out xs.length f val) := fun H0 Q g q => h H0 _ g fun H1 g1 => ⟨a, rfl, ⟨xs, (g.trans g1).sl s⟩, fun p hp =>
  lc_list (xs := xs) (Cmp H1 f val p) ⟨hp, .new hp, upd_same⟩ (fun _ H' _ w => ((g.trans g1).trans w.2.1).sl s) (fun m x H' hm w => ⟨hw x, w.turn (by have := (List.getElem?_eq_some_iff.mp hm).1; omega) (ht m x H1 (g.trans g1) hm) fun hf => he m x H1 (g.trans g1) hm hf⟩)
    fun H' w => q p H' (g1.free w.1) (g1.trans w.2.1) w.2.2⟩
theorem l_cmpN {xs : List V} {j : Nat} {ws : List Nat} (f : Nat → Bool) (val : Nat → V) (h : Ls t2 σ H xs) (hz : xs.length ≤ 40000) (hw : ∀ x, wipe ((wipe σ ws).set j (some x)) ws = wipe σ ws)
    (ht : ∀ (m : Nat) (x : V) H1, Gr H H1 → xs[m]? = some x → Ts c1 ((wipe σ ws).set j (some x)) H1 (f m)) (he : ∀ (m : Nat) (x : V) H1, Gr H H1 → xs[m]? = some x → f m = true → Vl t1 ((wipe σ ws).set j (some x)) H1 (val m)) :
    Ls (tLc (iList K t2) (gName j) c1 t1 ws) σ H (out xs.length f val) := fun H0 Q g q => h H0 _ g fun a H1 ha g1 hx => ⟨a, rfl, ⟨xs, SqL.of hx⟩, fun p hp =>
  lc_list (xs := xs) (Cmp H1 f val p) ⟨hp, .new hp, upd_same⟩ (fun _ H' _ w => SqL.of (w.2.1.lst hx)) (fun m x H' hm w => ⟨hw x, w.turn (by have := (List.getElem?_eq_some_iff.mp hm).1; omega) (ht m x H1 (g.trans g1) hm) fun hf => he m x H1 (g.trans g1) hm hf⟩)
    fun H' w => q p H' (g1.free w.1) (g1.trans w.2.1) w.2.2⟩
theorem s_yes : Ts tYes σ H true := fun H1 _ _ q => q H1 (.refl _)
end

/-! ### automatic steps -/
local macro_rules | `(tactic| walk_at "ev") => `(tactic| first
  | exact v_slot rfl
  | exact v_con
  | (refine' v_op ?a ?b ?c; (case a => walk_at "ev"); (case b => walk_at "ev"); (case c => walk_at "rv"))
  | (refine' v_call ?a ?b; (case a => walk_at "ea"); (case b => walk_at "sv"))
  | (refine' v_isbB ?a; (case a => walk_at "ev"))
  | (refine' v_and ?a (fun _ => ?b); (case a => walk_at "ev"); (case b => walk_at "ev"))
  | (refine' v_or ?a (fun _ => ?b); (case a => walk_at "ev"); (case b => walk_at "ev"))
  | (refine' v_not ?a; (case a => walk_at "ev"))
  | (refine' v_max ?a ?b; (case a => walk_at "ev"); (case b => walk_at "ev"))
  | (refine' v_min ?a ?b; (case a => walk_at "ev"); (case b => walk_at "ev"))
  | (refine' v_intB ?a; (case a => walk_at "ev"))
  | (refine' v_len ?a ?b; (case a => walk_at "ev"); (case b => assumption))
  | assumption)
local macro_rules | `(tactic| walk_at "ea") => `(tactic| first
  | exact g_nil
  | (refine' g_cons ?a ?b; (case a => walk_at "ev"); (case b => walk_at "ea")))
local macro_rules | `(tactic| walk_at "rv") => `(tactic| first
  | exact bi_0
  | (refine' bi_C ?a; (case a => walk_at "side"))
  | (refine' bi_eq ?a; (case a => rfl))
  | (refine' bi_ne ?a; (case a => rfl))
  | exact bi_isN
  | exact bi_notN
  | assumption)
local macro_rules | `(tactic| walk_at "side") => `(tactic| first
  | (show _ ≠ _; first | decide | omega)
  | (show _ ∧ _; first | exact ⟨by decide, by decide⟩ | exact ⟨by decide, by decide, by decide⟩ | omega))
local macro_rules | `(tactic| walk_at "et") => `(tactic| first
  | (refine' s_test ?a; (case a => walk_at "ev"))
  | (refine' s_B ?a; (case a => walk_at "ev"))
  | (refine' s_truB ?a; (case a => walk_at "ev"))
  | (refine' s_and ?a (fun _ => ?b); (case a => walk_at "et"); (case b => walk_at "et"))
  | (refine' s_or ?a (fun _ => ?b); (case a => walk_at "et"); (case b => walk_at "et"))
  | (refine' s_not ?a; (case a => walk_at "et"))
  | exact s_yes)
local macro_rules | `(tactic| walk_at "set") => `(tactic| (refine' B_set ?h ?k; (case h => walk_at "ev")))
local macro_rules | `(tactic| walk_at "setE") => `(tactic| (refine' S_set ?h ?k; (case h => walk_at "ev")))
local macro_rules | `(tactic| walk_at "when") => `(tactic| (refine' B_when ?h ?k1 ?k2; (case h => walk_at "et")))
local macro_rules | `(tactic| walk_at "whenE") => `(tactic| (refine' S_when ?h ?k1 ?k2; (case h => walk_at "et")))
local macro_rules | `(tactic| walk_at "whenInt") => `(tactic| (refine' B_whenInt ?h1 ?h2 ?h3 ?k; (case h1 => walk_at "et"); (case h2 => rfl); (case h3 => walk_at "ev")))
local macro_rules | `(tactic| walk_at "ret") => `(tactic| (refine' S_ret ?h ?k; (case h => walk_at "ev")))


/-- a def whose code object is known by its place -/
theorem fun_okC {P : Program} {w : World} {K : PySem.W.Frag} {mg : Str → Option Value} {base : Heap} {x z : Str} {st : Stmt} {f c : Addr} {fd : FuncData} {N ps : List Str} {k : Nat} {sp : Sp} (F : Fun K x z st f fd) (hc : fd.code = .ref c) (S : FnScope N ps (defScope st)) (len : ∀ vs H Q E, sp vs H Q E → vs.length = ps.length)
    (body : ∀ (A : Around) (outer : List Env) (s : Shared) (H : Hp) (vs : List V) (Q : VK) (E : XK), Room k (A.deeper (PyProof.Rows.envOfC z (defScope st) s.heap.objs.size f (.ref c))) → sp vs H Q E →
      ∃ t, PSs (cxOf CX0 P w K mg base N z (defScope st) f (.ref c) A outer s H E).nox (defBody st) t ∧ t { nx := fun _ H' => Q .non H', rt := Q } (start N vs) H) : FnOk P w K mg base CX0 (k + 1) f fd ps sp := by
  obtain ⟨oc, od, kV, doc, pm, an, cv, ct, osl, rfl, lk, hcd⟩ := F.ex
  have e : cv = .ref c := hc
  subst e
  refine fn_of lk hcd S len fun A outer s H vs Q E hr hsp => ?_
  obtain ⟨t, h, q⟩ := body A outer s H vs Q E hr hsp
  exact ⟨t, h.nox, q⟩

/-! ### comprehensions over a text; data; what is no text -/
section
variable {K : PySem.W.Frag} {σ : L2.St} {H H' : Hp} {t1 t2 t3 : TE} {c1 c2 : TT} {x y z v : V}
theorem l_cmpS {w : Str} {j : Nat} {ws : List Nat} (f : Nat → Bool) (val : Nat → V) (h : Vl t2 σ H (.str w)) (hz : w.cps.size ≤ 40000) (hw : ∀ x, wipe ((wipe σ ws).set j (some x)) ws = wipe σ ws)
    (ht : ∀ (m k : Nat) H1, Gr H H1 → w.cps[m]? = some k → Ts c1 ((wipe σ ws).set j (some (.str ⟨#[k]⟩))) H1 (f m)) (he : ∀ (m k : Nat) H1, Gr H H1 → w.cps[m]? = some k → f m = true → Vl t1 ((wipe σ ws).set j (some (.str ⟨#[k]⟩))) H1 (val m)) :
    Ls (tLc (iStr t2) (gName j) c1 t1 ws) σ H (out w.cps.size f val) := fun H0 Q g q => h H0 _ g fun H1 g1 => ⟨w, rfl, fun p hp =>
  lc_it walk_str (Cmp H1 f val p) ⟨hp, .new hp, upd_same⟩ (fun _ _ _ _ => trivial) (fun m x Ha Hb hm w0 ⟨e, k, hk, ex⟩ => by
    subst e
    subst ex
    exact ⟨hw _, w0.turn (by omega) (ht m k H1 (g.trans g1) hk) fun hf => he m k H1 (g.trans g1) hk hf⟩) fun H' w0 => q p H' (g1.free w0.1) (g1.trans w0.2.1) w0.2.2⟩
theorem dps_str : ∀ l : List Str, DpAll K H (l.map V.str) (l.map PyData.str)
  | [] => .nil
  | a :: l => .cons (.str a) (dps_str l)
/-- plain signs alone -/
def Asc (z : Str) : Prop := ∀ k ∈ z.cps.toList, k < 128
theorem Asc.ok {z : Str} (h : Asc z) : PyData.strOk z = true := by
  unfold PyData.strOk
  rw [← Array.all_toList, List.all_eq_true]
  intro k hk
  have := h k hk
  exact decide_eq_true (by omega)
theorem Asc.cat {a b : Str} (ha : Asc a) (hb : Asc b) : Asc (a ++ b) := by
  intro k hk
  have e : (a ++ b).cps.toList = a.cps.toList ++ b.cps.toList := Array.toList_append
  rw [e] at hk
  rcases List.mem_append.mp hk with h | h
  · exact ha k h
  · exact hb k h
theorem Asc.cut {a : Str} (ha : Asc a) (lo hi : Option Int) : Asc (cutS a lo hi) := by
  intro k hk
  exact ha k (List.mem_of_mem_drop (List.mem_of_mem_take hk))
theorem Asc.one {k : Nat} (h : k < 128) : Asc ⟨#[k]⟩ := by
  intro j hj
  rw [List.mem_singleton.mp hj]
  exact h
theorem cut_len (a : Str) (lo hi : Option Int) : (cutS a lo hi).length ≤ a.length := by
  show ((_ : List Nat).toArray).size ≤ a.cps.size
  rw [List.size_toArray]
  refine Nat.le_trans (List.length_take_le' _ _) ?_
  rw [List.length_drop, Array.length_toList]
  omega
theorem cat_len (a b : Str) : (a ++ b).length = a.length + b.length := Array.size_append
theorem canLay_strs : ∀ l : List Str, (∀ a ∈ l, Asc a) → PyData.canLayAll0 (l.map PyData.str) = true
  | [], _ => by simp [PyData.canLayAll0]
  | a :: l, h => by
    have t := canLay_strs l fun b hb => h b (List.mem_cons_of_mem _ hb)
    have t2 := (h a List.mem_cons_self).ok
    simp [PyData.canLayAll0, PyData.canLay0, t, t2]
theorem depth_strs : ∀ l : List Str, PyData.depthAll (l.map PyData.str) = 0
  | [] => by simp [PyData.depthAll]
  | a :: l => by
    have := depth_strs l
    simp [PyData.depthAll, PyData.depth, this]
theorem shaped_strs (l : List Str) (h : ∀ a ∈ l, Asc a) : SeqAt.shaped (.list (l.map PyData.str)) = true := by
  unfold SeqAt.shaped
  simp [PyData.canLay0, PyData.depth, canLay_strs l h, depth_strs l]
theorem eqv_nil (ds : List PyData) : PyData.eqv (.list ds) (.list []) = ds.isEmpty := by
  cases ds <;> simp [PyData.eqv, PyData.eqvAll]

theorem Gr.tyOf {t : Value} (g : Gr H H') (h : TyOf K H v t) : TyOf K H' v t := by
  cases h with
  | non => exact .non
  | bl x => exact .bl x
  | int i => exact .int i
  | str x => exact .str x
  | flt x => exact .flt x
  | lst e => exact .lst (g.lst e)
  | frz e => exact .frz (g.at_ e fun _ z => by cases z)
  | tup e => exact .tup (g.tup e)
  | dK e => exact .dK (g.at_ e fun _ z => by cases z)
  | dT e => exact .dT (g.at_ e fun _ z => by cases z)
  | ins e a b c d f => exact .ins (g.ins e) a b c d f
theorem Gr.tyX {t : Value} (g : Gr H H') (h : TyX K H v t) : TyX K H' v t := by
  cases h with
  | base h => exact .base (g.tyOf h)
  | byt b => exact .byt b
  | set e => exact .set (g.at_ e fun _ z => by cases z)
  | kList e c => exact .kList e c
  | kTuple e c => exact .kTuple e c
  | kDict e c => exact .kDict e c
  | fTuple e => exact .fTuple (g.at_ e fun _ z => by cases z)
  | fDict e => exact .fDict (g.at_ e fun _ z => by cases z)
/-- a thing of a known kind that is no text -/
def NoStr (K : PySem.W.Frag) (v : V) (H : Hp) : Prop := ∃ n : String, TyX K H v (.type n) ∧ PySem.W.kitOne K (.type n) (.type "str") = some false
theorem NoStr.mono (g : Gr H H') (h : NoStr K v H) : NoStr K v H' := let ⟨n, a, b⟩ := h; ⟨n, g.tyX a, b⟩
theorem NoStr.non : NoStr K .non H := ⟨_, .base .non, kit_ty (by decide +kernel)⟩
theorem NoStr.bl {b : Bool} : NoStr K (.bl b) H := ⟨_, .base (.bl b), kit_ty (by decide +kernel)⟩
theorem NoStr.int {i : Int} : NoStr K (.int i) H := ⟨_, .base (.int i), kit_ty (by decide +kernel)⟩
theorem NoStr.lst {a : Addr} {xs : List V} (h : H a = some (.lst xs)) : NoStr K (.ref a) H := ⟨_, .base (.lst h), kit_ty (by decide +kernel)⟩
theorem NoStr.tup {a : Addr} {xs : List V} (h : H a = some (.tup xs)) : NoStr K (.ref a) H := ⟨_, .base (.tup h), kit_ty (by decide +kernel)⟩
theorem NoStr.dK {a : Addr} {xs : List (Key × V)} (h : H a = some (.dK xs)) : NoStr K (.ref a) H := ⟨_, .base (.dK h), kit_ty (by decide +kernel)⟩
theorem v_nostr (h : Vl t1 σ H v) (n : NoStr K v H) : Vl (tCB (rIsi K) (tCons t1 (tCons (tC (.ty "str")) tNil))) σ H (.bl false) := by
  obtain ⟨k, a, b⟩ := n
  exact v_isi h v_con (.ty _) (fun _ g => g.tyX a) b
/-- displays whose items are no texts -/
def NoStrs (K : PySem.W.Frag) (n : Nat) (vs : List V) (H : Hp) : Prop := vs.length = n ∧ ∀ v ∈ vs, NoStr K v H
theorem a_nil : Ar tNil σ H (NoStrs K 0) := fun H1 _ _ q => q [] H1 (.refl _) ⟨rfl, fun _ h => absurd h List.not_mem_nil⟩
theorem a_cons {a1 : TA} {n : Nat} (h : Vr t1 σ H (NoStr K)) (k : Ar a1 σ H (NoStrs K n)) : Ar (tCons t1 a1) σ H (NoStrs K (n + 1)) := fun H1 Q g q => h H1 _ g fun v H2 g2 hv => k H2 _ (g.trans g2) fun vs H3 g3 ⟨hl, ha⟩ => q (v :: vs) H3 (g2.trans g3) ⟨by rw [List.length_cons, hl], fun u hu => by
  rcases List.mem_cons.mp hu with e | e
  · rw [e]
    exact hv.mono g3
  · exact ha u e⟩
theorem vr_v {n : V} (h : Vl t1 σ H n) (k : ∀ H1, NoStr K n H1) : Vr t1 σ H (NoStr K) := fun H1 Q g q => h H1 _ g fun H2 g2 => q n H2 g2 (k H2)
theorem vr_l {xs : List V} (h : Ls t1 σ H xs) : Vr t1 σ H (NoStr K) := fun H1 Q g q => h H1 _ g fun p H2 _ g2 e => q _ H2 g2 (.lst e)
theorem vr_u {xs : List V} (h : Tu t1 σ H xs) : Vr t1 σ H (NoStr K) := fun H1 Q g q => h H1 _ g fun p H2 _ g2 e => q _ H2 g2 (.tup e)
theorem r_lst {a1 : TA} {R : List V → Hp → Prop} (h : Ar a1 σ H R) (n : ∀ vs H1, R vs H1 → vs.length ≤ 100000) (mono : ∀ {vs H1 H2}, Gr H1 H2 → R vs H1 → R vs H2) : Vr (tLst a1) σ H (fun v H1 => ∃ p vs, v = .ref p ∧ H1 p = some (.lst vs) ∧ R vs H1) := fun H1 Q g q => h H1 _ g fun vs H2 g2 hv =>
  ⟨small (n vs H2 hv), fun p hp => q _ _ (g2.trans (.new hp)) ⟨p, vs, rfl, upd_same, mono (.new hp) hv⟩⟩
theorem r_ix {i : Int} {R S : V → Hp → Prop} (h : Vr t1 σ H R) (k : ∀ H1, Gr H H1 → Vl t2 σ H1 (.int i)) (o : ∀ v H1, Gr H H1 → R v H1 → ∃ p xs u, v = .ref p ∧ H1 p = some (.lst xs) ∧ atI xs i = some u ∧ S u H1) (mono : ∀ {u H1 H2}, Gr H1 H2 → S u H1 → S u H2) : Vr (tOp (rIxL K) t1 t2) σ H S := fun H1 Q g q =>
  h H1 _ g fun v H2 g2 hv => by
    obtain ⟨p, xs, u, e, hp, hu, hs⟩ := o v H2 (g.trans g2) hv
    exact k H2 (g.trans g2) H2 _ (.refl _) fun H3 g3 => ⟨p, xs, i, u, e, rfl, SqL.of (g3.lst hp), hu, q u H3 (g2.trans g3) (mono g3 hs)⟩
end
section
variable {σ : L2.St} {H : Hp} {t1 : TE}
theorem v_slS {w : Str} {tl th : TO} {lo hi : Option Int} (h : Vl t1 σ H (.str w)) (h1 : Pt tl σ H lo) (h2 : Pt th σ H hi) (s : w.length ≤ 100000) : Vl (tSl (fun x lo hi H Q => ∃ z, x = .str z ∧ z.length ≤ sizeLine ∧ Q (.str (cutS z lo hi)) H) t1 tl th) σ H (.str (cutS w lo hi)) := fun H1 _ g q =>
  h H1 _ g fun H2 g2 => h1 H2 _ (g.trans g2) fun H3 g3 => h2 H3 _ ((g.trans g2).trans g3) fun H4 g4 => ⟨w, rfl, small s, q H4 ((g2.trans g3).trans g4)⟩
end
theorem fmod_in (c : Int) {m : Int} (h : 0 < m) : 0 ≤ c.fmod m ∧ c.fmod m < m := ⟨Int.fmod_nonneg_of_pos c h, Int.fmod_lt_of_pos c h⟩
theorem atI_in {α : Type} (d : α) {l : List α} {i : Int} (h0 : 0 ≤ i) (h : i < l.length) : atI l i = some (l.getD i.toNat d) := by
  have hn : i.toNat < l.length := by omega
  have e := atI_nat (xs := l) (j := i.toNat) (v := l.getD i.toNat d) (by rw [List.getD_eq_getElem?_getD, List.getElem?_eq_getElem hn]; rfl)
  rw [Int.toNat_of_nonneg h0] at e
  exact e
/-! ### names -/
def signs : Str := "abcdefghijklmnopqrstuvwxyz0123456789"
def nameB (z : Str) : Bool := (decide (1 ≤ (z.length : Int)) && decide ((z.length : Int) ≤ 12)) && z.cps.toList.all fun k => decide (k ∈ signs.cps.toList)
def wishB (z : Str) : Bool := inV (.str z) [V.str (Str.ofString "read"), V.str (Str.ofString "write")]
theorem wish_is (z : Str) : wishB z = (decide (V.str z = V.str (Str.ofString "read")) || decide (V.str z = V.str (Str.ofString "write"))) := by
  unfold wishB inV
  rw [List.any_cons, List.any_cons, List.any_nil, Bool.or_false]
  have e : ∀ a b : Str, eqV (.str a) (.str b) = decide (V.str b = V.str a) := fun a b => by
    rw [dec_str]
    exact Bool.beq_comm ..
  rw [e, e]

theorem bi_notInS {k : Nat} {w : Str} {H : Hp} : Bi rNotInS (.str ⟨#[k]⟩) (.str w) H (.bl (!decide (k ∈ w.cps.toList))) := fun H1 _ _ q => ⟨k, w, rfl, rfl, q H1 (.refl _)⟩
theorem bi_inS {k : Nat} {w : Str} {H : Hp} : Bi rInS (.str ⟨#[k]⟩) (.str w) H (.bl (decide (k ∈ w.cps.toList))) := fun H1 _ _ q => ⟨k, w, rfl, rfl, q H1 (.refl _)⟩
theorem none_out (l : List Nat) (p : Nat → Bool) : ((List.range l.length).filter fun m => !p (l.getD m 0)).isEmpty = l.all p := by
  rw [Bool.eq_iff_iff, List.isEmpty_iff, List.filter_eq_nil_iff, List.all_eq_true]
  constructor
  · intro h k hk
    obtain ⟨m, hm, e⟩ := List.getElem_of_mem hk
    have := h m (List.mem_range.mpr hm)
    rw [List.getD_eq_getElem?_getD, List.getElem?_eq_getElem hm, e] at this
    simpa using this
  · intro h m hm
    have hm' := List.mem_range.mp hm
    rw [List.getD_eq_getElem?_getD, List.getElem?_eq_getElem hm']
    have := h _ (List.getElem_mem hm')
    simpa using this
theorem cps_getD {w : Str} {m k : Nat} (h : w.cps[m]? = some k) : w.cps.toList.getD m 0 = k := by
  rw [List.getD_eq_getElem?_getD, Array.getElem?_toList, h]
  rfl


def topS (i : Nat) : Stmt := PySem.Challenge.pw_readwriteroom_k03_names_and_wishes.main.body.getD i (.Pass ⟨0, 0, 0, 0⟩)
abbrev sIsName : Stmt := topS 5
abbrev nmIsName : List Str := ["thing"]
theorem scIsName : FnScope nmIsName ["thing"] (defScope sIsName) := ⟨rfl, rfl, rfl, by decide +kernel, rfl, by decide +kernel, by decide +kernel⟩
abbrev sIsWish : Stmt := topS 6
abbrev nmIsWish : List Str := ["thing"]
theorem scIsWish : FnScope nmIsWish ["thing"] (defScope sIsWish) := ⟨rfl, rfl, rfl, by decide +kernel, rfl, by decide +kernel, by decide +kernel⟩
abbrev sCell : Stmt := topS 8
abbrev nmCell : List Str := ["_law_script", "_law_k"]
theorem scCell : FnScope nmCell ["_law_script", "_law_k"] (defScope sCell) := ⟨rfl, rfl, rfl, by decide +kernel, rfl, by decide +kernel, by decide +kernel⟩
abbrev sSign : Stmt := topS 9
abbrev nmSign : List Str := ["_law_cell", "_law_some"]
theorem scSign : FnScope nmSign ["_law_cell"] (defScope sSign) := ⟨rfl, rfl, rfl, by decide +kernel, rfl, by decide +kernel, by decide +kernel⟩
abbrev sOther : Stmt := topS 10
abbrev nmOther : List Str := ["_law_cell", "_law_some"]
theorem scOther : FnScope nmOther ["_law_cell"] (defScope sOther) := ⟨rfl, rfl, rfl, by decide +kernel, rfl, by decide +kernel, by decide +kernel⟩
abbrev sThing : Stmt := topS 11
abbrev nmThing : List Str := ["_law_cell", "_law_things"]
theorem scThing : FnScope nmThing ["_law_cell"] (defScope sThing) := ⟨rfl, rfl, rfl, by decide +kernel, rfl, by decide +kernel, by decide +kernel⟩
abbrev sName : Stmt := topS 12
abbrev nmName : List Str := ["_law_thing", "_law_some", "_law_sign"]
theorem scName : FnScope nmName ["_law_thing"] (defScope sName) := ⟨rfl, rfl, rfl, by decide +kernel, rfl, by decide +kernel, by decide +kernel⟩
abbrev sLaw : Stmt := topS 13
abbrev nmLaw : List Str := ["_law_script", "_law_thing", "_law_many", "_law_k", "_law_place", "_law_named", "_law_wished", "_law_wish"]
theorem scLaw : FnScope nmLaw ["_law_script"] (defScope sLaw) := ⟨rfl, rfl, rfl, by decide +kernel, rfl, by decide +kernel, by decide +kernel⟩
structure Top (K : PySem.W.Frag) (mg : Str → Option Value) where
  f_IsName : Addr
  fd_IsName : FuncData
  F_IsName : Fun K "is_name" "is_name" sIsName f_IsName fd_IsName
  B_IsName : Binds K fd_IsName ["thing"] []
  g_IsName : mg "is_name" = some (.ref f_IsName)
  co_IsName : Addr
  ta_IsName : Addr
  cd_IsName : fd_IsName.code = .ref co_IsName
  f_IsWish : Addr
  fd_IsWish : FuncData
  F_IsWish : Fun K "is_wish" "is_wish" sIsWish f_IsWish fd_IsWish
  B_IsWish : Binds K fd_IsWish ["thing"] []
  g_IsWish : mg "is_wish" = some (.ref f_IsWish)
  f_Cell : Addr
  fd_Cell : FuncData
  F_Cell : Fun K "_law_cell_at" "_law_cell_at" sCell f_Cell fd_Cell
  B_Cell : Binds K fd_Cell ["_law_script", "_law_k"] []
  g_Cell : mg "_law_cell_at" = some (.ref f_Cell)
  f_Sign : Addr
  fd_Sign : FuncData
  F_Sign : Fun K "_law_sign_by" "_law_sign_by" sSign f_Sign fd_Sign
  B_Sign : Binds K fd_Sign ["_law_cell"] []
  g_Sign : mg "_law_sign_by" = some (.ref f_Sign)
  f_Other : Addr
  fd_Other : FuncData
  F_Other : Fun K "_law_other_by" "_law_other_by" sOther f_Other fd_Other
  B_Other : Binds K fd_Other ["_law_cell"] []
  g_Other : mg "_law_other_by" = some (.ref f_Other)
  f_Thing : Addr
  fd_Thing : FuncData
  F_Thing : Fun K "_law_thing_by" "_law_thing_by" sThing f_Thing fd_Thing
  B_Thing : Binds K fd_Thing ["_law_cell"] []
  g_Thing : mg "_law_thing_by" = some (.ref f_Thing)
  f_Name : Addr
  fd_Name : FuncData
  F_Name : Fun K "_law_name" "_law_name" sName f_Name fd_Name
  B_Name : Binds K fd_Name ["_law_thing"] []
  g_Name : mg "_law_name" = some (.ref f_Name)
  f_Law : Addr
  fd_Law : FuncData
  F_Law : Fun K "law" "law" sLaw f_Law fd_Law
  B_Law : Binds K fd_Law ["_law_script"] []
  g_Law : mg "law" = some (.ref f_Law)
  m_all : mg "all" = none
  m_bool : mg "bool" = none
  m_isinstance : mg "isinstance" = none
  m_len : mg "len" = none
  m_range : mg "range" = none
  m_str : mg "str" = none
  t_NAME_LENGTH : Tok
  c_NAME_LENGTH : mg "NAME_LENGTH" = some (.int 12 t_NAME_LENGTH)
  t_NAME_SIGNS : Tok
  c_NAME_SIGNS : mg "NAME_SIGNS" = some (.str (Str.ofString "abcdefghijklmnopqrstuvwxyz0123456789") t_NAME_SIGNS)
  t_READ : Tok
  c_READ : mg "READ" = some (.str (Str.ofString "read") t_READ)
  t_WRITE : Tok
  c_WRITE : mg "WRITE" = some (.str (Str.ofString "write") t_WRITE)
structure Tabs {K : PySem.W.Frag} {mg : Str → Option Value} (T : Top K mg) (base : Heap) : Prop where
  IsName : GxR.TabB base mg T.co_IsName T.ta_IsName

/-! ### promises -/
def cellAt (ns : List Int) (k : Nat) : Int := ns.getD k 0
def spCell (K : PySem.W.Frag) : Sp := fun vs H Q _ => ∃ (a : Addr) (ns : List Int) (k : Nat), vs = [.ref a, .int (k : Int)] ∧ SqL K H a (ns.map V.int) ∧ RV (.int (cellAt ns k)) H Q
theorem sv_cell {K : PySem.W.Frag} {H : Hp} {a : Addr} {ns : List Int} {i : Int} (k : Nat) (e : i = (k : Int)) (h : SqL K H a (ns.map V.int)) : SpV (spCell K) [.ref a, .int i] H (.int (cellAt ns k)) := fun H1 Q E g q => ⟨a, ns, k, by rw [e], g.sl h, q⟩
/-- what is asked by is_name, is_wish: a text, or a thing that is none -/
def spKind (K : PySem.W.Frag) (P : Addr) (f : Str → Bool) : Sp := fun vs H Q _ => ∃ v, vs = [v] ∧ GxR.TabG H P ∧ ((∃ z, v = .str z ∧ z.length ≤ 100000 ∧ RV (.bl (f z)) H Q) ∨ (NoStr K v H ∧ RV (.bl false) H Q))
theorem sv_kindS {K : PySem.W.Frag} {P : Addr} {f : Str → Bool} {H : Hp} {z : Str} (t : GxR.TabG H P) (n : z.length ≤ 100000) : SpV (spKind K P f) [.str z] H (.bl (f z)) := fun H1 Q E g q => ⟨_, rfl, g.tab t, .inl ⟨z, rfl, n, q⟩⟩
theorem sv_kindN {K : PySem.W.Frag} {P : Addr} {f : Str → Bool} {H : Hp} {v : V} (t : GxR.TabG H P) (n : NoStr K v H) : SpV (spKind K P f) [v] H (.bl false) := fun H1 Q E g q => ⟨_, rfl, g.tab t, .inr ⟨n.mono g, q⟩⟩
def spLawName (K : PySem.W.Frag) : Sp := fun vs H Q _ => ∃ v, vs = [v] ∧ ((∃ z, v = .str z ∧ z.length ≤ 100000 ∧ Asc z ∧ RV (.bl (nameB z)) H Q) ∨ (NoStr K v H ∧ RV (.bl false) H Q))
theorem sv_lnS {K : PySem.W.Frag} {H : Hp} {z : Str} (n : z.length ≤ 100000) (h : Asc z) : SpV (spLawName K) [.str z] H (.bl (nameB z)) := fun H1 Q E g q => ⟨_, rfl, .inl ⟨z, rfl, n, h, q⟩⟩
theorem sv_lnN {K : PySem.W.Frag} {H : Hp} {v : V} (n : NoStr K v H) : SpV (spLawName K) [v] H (.bl false) := fun H1 Q E g q => ⟨_, rfl, .inr ⟨n.mono g, q⟩⟩
def spChar : Sp := fun vs H Q _ => ∃ c : Int, vs = [.int c] ∧ ∀ k : Nat, k < 128 → RV (.str ⟨#[k]⟩) H Q
theorem sr_char {H : Hp} {c : Int} : SpR spChar [.int c] H (fun v _ => ∃ k : Nat, v = .str ⟨#[k]⟩ ∧ k < 128) := fun H1 Q E g q => ⟨c, rfl, fun k hk H2 g2 => q _ H2 g2 ⟨k, rfl, hk⟩⟩
/-- a sign of a written text -/
theorem sign_in {w : Str} (n : Nat) (h : (w.cps.toList.all fun k => decide (k < 128)) = true) : w.cps.toList.getD n 0 < 128 := by
  rw [List.getD_eq_getElem?_getD]
  cases e : w.cps.toList[n]? with
  | none => show 0 < 128; decide
  | some k => exact of_decide_eq_true (List.all_eq_true.mp h k (List.mem_of_getElem? e))
theorem bi_sign {w : Str} {c : Int} {n : Nat} {H : Hp} (hn : w.length = n) (h0 : 0 < n) (s : n ≤ 100000) : Bi rIxS (.str w) (.int (c.fmod n)) H (.str ⟨#[w.cps.toList.getD (c.fmod n).toNat 0]⟩) :=
  bi_ixS (by omega) (atI_in 0 (fmod_in c (by omega)).1 (by
    have h2 := (fmod_in c (m := n) (by omega)).2
    have e : w.cps.toList.length = w.length := Array.length_toList
    rw [e, hn]
    exact h2))
def Any (K : PySem.W.Frag) (v : V) (H : Hp) : Prop := (∃ z, v = .str z ∧ z.length ≤ 1000 ∧ Asc z) ∨ NoStr K v H
theorem Any.mono {K : PySem.W.Frag} {v : V} {H H' : Hp} (g : Gr H H') (h : Any K v H) : Any K v H' := h.imp id (NoStr.mono g)
def spThing (K : PySem.W.Frag) : Sp := fun vs H Q _ => ∃ c : Int, vs = [.int c] ∧ RR_ (Any K) H Q
def spLaw (K : PySem.W.Frag) (P : Addr) : Sp := fun vs H Q _ => ∃ (a : Addr) (ns : List Int), vs = [.ref a] ∧ SqL K H a (ns.map V.int) ∧ GxR.TabG H P ∧ ns.length ≤ 63 ∧ ∀ H', Q (.bl true) H'
theorem law_pre {K : PySem.W.Frag} {mg : Str → Option Value} (T : Top K mg) (H : Hp) (a : Addr) (ns : List Int) (hl : ns.length ≤ 63) (hS : SqL K H a (ns.map V.int)) (ht : ∀ p ∈ [(T.co_IsName, T.ta_IsName)], GxR.TabG H p.2) : spLaw K T.ta_IsName [.ref a] H (fun v _ => v = .bl true) fun _ _ _ => False :=
  ⟨a, ns, rfl, hS, ht _ List.mem_cons_self, hl, fun _ => rfl⟩

section
variable {P : Program} {w : World} {K : PySem.W.Frag} {mg : Str → Option Value} {base : Heap}
theorem ok_Cell (T : Top K mg) (TB : Tabs T base) : FnOk P w K mg base CX0 1 T.f_Cell T.fd_Cell ["_law_script", "_law_k"] (spCell K) := by
  refine T.F_Cell.ok scCell (fun vs H Q E h => ?_) (fun cdv A outer s H vs Q E hr h => ?_)
  · obtain ⟨a, ns, k, rfl, hS, q⟩ := h
    rfl
  · obtain ⟨a, ns, k, rfl, hS, q⟩ := h
    refine ⟨_, (pss_cons (ps_if (pt_cmpR op_lt (pv 1) (pe_callB call_len_seq (by rfl) T.m_len PySem.boot_len (pa_cons (pv 0) pa_nil)) (nomark _))
      (pss_one (ps_ret (pe_ix ix_list (pv 0) (pv 1) (fun _ _ => rfl))))
      pss_nil)
      (pss_one (ps_ret pe_int))), ?_⟩
    refine' B_when (b := decide ((k : Int) < (ns.map V.int).length)) ?h ?k1 ?k2
    (case h => walk_at "et")
    all_goals intro hb H1 e1
    · have hk' : k < ns.length := by
        have := of_decide_eq_true hb
        rw [List.length_map] at this
        omega
      have g : (ns.map V.int)[k]? = some (.int (cellAt ns k)) := by
        rw [List.getElem?_map, List.getElem?_eq_getElem hk']
        unfold cellAt
        rw [List.getD_eq_getElem?_getD, List.getElem?_eq_getElem hk']
        rfl
      exact S_ret (v_op (v_slot rfl) (v_slot rfl) (bi_ixL (e1.sl hS) (atI_nat g))) fun H2 e2 => q H2 (e1.trans e2)
    · refine S_ret v_con fun H2 e2 => ?_
      have hk : ¬ k < ns.length := by
        have := of_decide_eq_false hb
        rw [List.length_map] at this
        omega
      have g : cellAt ns k = 0 := by
        unfold cellAt
        rw [List.getD_eq_getElem?_getD, List.getElem?_eq_none (by omega)]
        rfl
      rw [g] at q
      exact q H2 (e1.trans e2)
theorem ok_IsName (T : Top K mg) (TB : Tabs T base) : FnOk P w K mg base CX0 1 T.f_IsName T.fd_IsName ["thing"] (spKind K T.ta_IsName nameB) := by
  refine fun_okC T.F_IsName T.cd_IsName scIsName (fun vs H Q E h => ?_) (fun A outer s H vs Q E hr h => ?_)
  · obtain ⟨v, rfl, hT, hv⟩ := h
    rfl
  · obtain ⟨v, rfl, hT, hv⟩ := h
    refine ⟨_, (pss_cons (ps_if (pt_not (pt_val (pe_callB call_isi (by rfl) T.m_isinstance (by decide +kernel) (pa_cons (pv 0) (pa_cons (pe_bltn (v := .ty "str") (by rfl) T.m_str (by decide +kernel) rfl) pa_nil)))))
      (pss_one (ps_ret pe_bl))
      pss_nil)
      (pss_cons (ps_if (pt_not (pt_chain op_le op_le pe_int (pe_callB call_len_str (by rfl) T.m_len PySem.boot_len (pa_cons (pv 0) pa_nil)) (pe_glob (v := .int 12) rfl T.c_NAME_LENGTH ⟨_, rfl⟩)))
      (pss_one (ps_ret pe_bl))
      pss_nil)
      (pss_one (ps_ret (RG.pe_allG hr (by rfl) T.m_all TB.IsName rfl ⟨by rfl, by rfl, by decide +kernel, by rfl, by rfl, RG.nofree (by decide +kernel)⟩ (pv 0) (RG.elt_in (by rfl) (by rfl) (by rfl) T.c_NAME_SIGNS) (fun _ => rfl)))))), ?_⟩
    rcases hv with ⟨z, rfl, hz, q⟩ | ⟨hn, q⟩
    · refine B_when (s_not (s_B (v_issS (v_slot rfl)))) (fun hb => absurd hb (by decide)) fun _ H1 e1 => ?_
      replace q := q.mono e1
      replace hT := e1.tab hT
      refine' B_when ?h ?k1 ?k2
      (case h => refine' s_not ?a; (case a => refine' s_test ?b; (case b => exact v_chain v_con (v_lenS (v_slot rfl) hz) bi_0 (fun _ => v_con) (fun _ => bi_0))))
      all_goals intro hb H2 e2
      · refine S_ret v_con fun H3 e3 => ?_
        have e : nameB z = false := by
          unfold nameB
          rw [Bool.not_eq_true'] at hb
          rw [hb]
          rfl
        rw [e] at q
        exact q H3 (e2.trans e3)
      · have e : nameB z = z.cps.toList.all fun k => decide (k ∈ signs.cps.toList) := by
          unfold nameB
          rw [Bool.not_eq_false'] at hb
          rw [hb]
          rfl
        rw [e] at q
        refine ⟨_, rfl, z, rfl, e2.tab hT, fun H3 tb => ?_⟩
        exact q H3 (e2.trans (.ofTab (e2.tab hT) tb))
    · refine B_when (s_not (s_B (v_nostr (v_slot rfl) hn))) (fun _ H1 e1 => ?_) (fun hb => absurd hb (by decide))
      exact S_ret v_con fun H2 e2 => q H2 (e1.trans e2)
theorem ok_IsWish (T : Top K mg) (TB : Tabs T base) : FnOk P w K mg base CX0 1 T.f_IsWish T.fd_IsWish ["thing"] (spKind K T.ta_IsName wishB) := by
  refine T.F_IsWish.ok scIsWish (fun vs H Q E h => ?_) (fun cdv A outer s H vs Q E hr h => ?_)
  · obtain ⟨v, rfl, hT, hv⟩ := h
    rfl
  · obtain ⟨v, rfl, hT, hv⟩ := h
    refine ⟨_, (pss_one (ps_ret (pe_and (pe_callB call_isi (by rfl) T.m_isinstance (by decide +kernel) (pa_cons (pv 0) (pa_cons (pe_bltn (v := .ty "str") (by rfl) T.m_str (by decide +kernel) rfl) pa_nil))) (pe_one (pe_cmpR op_in_seq (pv 0) (pe_tup (pa_cons (pe_glob (v := .str (Str.ofString "read")) rfl T.c_READ ⟨_, rfl⟩) (pa_cons (pe_glob (v := .str (Str.ofString "write")) rfl T.c_WRITE ⟨_, rfl⟩) pa_nil))) (by rfl)))))), ?_⟩
    rcases hv with ⟨z, rfl, hz, q⟩ | ⟨hn, q⟩
    · refine' S_ret ?h ?k
      (case h => refine' v_and (v_issS (v_slot rfl)) (fun _ => ?b); (case b => exact v_opU (v_slot rfl) (u_tup (g_cons v_con (g_cons v_con g_nil)) (by decide)) (fun p H1 hp _ => bi_inT (SqT.of hp) rfl rfl)))
      intro H1 e1
      have e : (true && (if false = true then !inV (.str z) [V.str (Str.ofString "read"), V.str (Str.ofString "write")] else inV (.str z) [V.str (Str.ofString "read"), V.str (Str.ofString "write")])) = wishB z := by
        rw [if_neg Bool.false_ne_true, Bool.true_and]
        rfl
      rw [e]
      exact q H1 e1
    · refine' S_ret ?h2 ?k2
      (case h2 => exact v_and (c := false) (v_nostr (v_slot rfl) hn) (fun hb => absurd hb (by decide)))
      intro H1 e1
      exact q H1 e1
theorem ok_Sign (T : Top K mg) (TB : Tabs T base) : FnOk P w K mg base CX0 1 T.f_Sign T.fd_Sign ["_law_cell"] (spChar) := by
  refine T.F_Sign.ok scSign (fun vs H Q E h => ?_) (fun cdv A outer s H vs Q E hr h => ?_)
  · obtain ⟨c, rfl, q⟩ := h
    rfl
  · obtain ⟨c, rfl, q⟩ := h
    refine ⟨_, (pss_cons (ps_set (i := 1) scSign.nd rfl (Or.inl rfl) pe_str)
      (pss_one (ps_ret (pe_ix ix_str (pv 1) (pe_op op_modN (pv 0) pe_int) (fun _ _ => rfl))))), ?_⟩
    refine' B_set v_con ?k
    intro H1 e1
    exact S_ret (v_op (v_slot rfl) (v_op (v_slot rfl) v_con (bi_C (show (36 : Int) ≠ 0 by decide))) (bi_sign (n := 36) (by decide +kernel) (by decide) (by decide))) fun H2 e2 => q _ (sign_in _ (by decide +kernel)) H2 (e1.trans e2)
theorem ok_Other (T : Top K mg) (TB : Tabs T base) : FnOk P w K mg base CX0 1 T.f_Other T.fd_Other ["_law_cell"] (spChar) := by
  refine T.F_Other.ok scOther (fun vs H Q E h => ?_) (fun cdv A outer s H vs Q E hr h => ?_)
  · obtain ⟨c, rfl, q⟩ := h
    rfl
  · obtain ⟨c, rfl, q⟩ := h
    refine ⟨_, (pss_cons (ps_set (i := 1) scOther.nd rfl (Or.inl rfl) pe_str)
      (pss_cons (ps_if (pt_cmpR op_eq (pe_op op_modN (pv 0) pe_int) pe_int (nomark _))
      (pss_one (ps_ret (pe_ix ix_str pe_str (pe_op op_modN (pe_op op_fdivN (pv 0) pe_int) pe_int) (fun _ _ => rfl))))
      pss_nil)
      (pss_one (ps_ret (pe_ix ix_str (pv 1) (pe_op op_modN (pv 0) (pe_callB call_len_str (by rfl) T.m_len PySem.boot_len (pa_cons (pv 1) pa_nil))) (fun _ _ => rfl)))))), ?_⟩
    refine' B_set v_con ?k
    intro H1 e1
    refine' B_when ?h ?k1 ?k2
    (case h => walk_at "et")
    all_goals intro hb H2 e2
    · exact S_ret (v_op v_con (v_op (v_op (v_slot rfl) v_con (bi_C ⟨by decide, by decide⟩)) v_con (bi_C (show (5 : Int) ≠ 0 by decide))) (bi_sign (n := 5) (by decide +kernel) (by decide) (by decide))) fun H3 e3 => q _ (sign_in _ (by decide +kernel)) H3 ((e1.trans e2).trans e3)
    · exact S_ret (v_op (v_slot rfl) (v_op (v_slot rfl) (v_lenS (v_slot rfl) (by decide +kernel)) (bi_C (by decide +kernel))) (bi_sign (n := 60) (by decide +kernel) (by decide) (by decide))) fun H3 e3 => q _ (sign_in _ (by decide +kernel)) H3 ((e1.trans e2).trans e3)
theorem ok_Thing (T : Top K mg) (TB : Tabs T base) : FnOk P w K mg base CX0 1 T.f_Thing T.fd_Thing ["_law_cell"] (spThing K) := by
  refine T.F_Thing.ok scThing (fun vs H Q E h => ?_) (fun cdv A outer s H vs Q E hr h => ?_)
  · obtain ⟨c, rfl, q⟩ := h
    rfl
  · obtain ⟨c, rfl, q⟩ := h
    refine ⟨_, (pss_cons (ps_set (i := 1) scThing.nd rfl (Or.inl rfl) (pe_lst (pa_cons pe_non (pa_cons pe_bl (pa_cons pe_bl (pa_cons pe_int (pa_cons pe_int (pa_cons (pe_lst pa_nil) (pa_cons (pe_lst (pa_cons pe_str pa_nil)) (pa_cons (pe_tup (pa_cons pe_str pa_nil)) (pa_cons (pe_disp (pps_cons pe_str pe_int pps_nil) (by rfl) (by rfl) (fun z => by cases z) (by decide)) pa_nil)))))))))))
      (pss_cons (ps_if (pt_cmpR op_eq (pe_op op_modN (pv 0) pe_int) pe_int (nomark _))
      (pss_one (ps_ret (pe_ix ix_list (pv 1) (pe_op op_modN (pe_op op_fdivN (pv 0) pe_int) pe_int) (fun _ _ => rfl))))
      pss_nil)
      (pss_one (ps_ret (pe_ix ix_list (pe_lst (pa_cons pe_str (pa_cons pe_str (pa_cons pe_str (pa_cons pe_str (pa_cons pe_str (pa_cons pe_str (pa_cons pe_str (pa_cons pe_str (pa_cons pe_str pa_nil)))))))))) (pe_op op_modN (pe_op op_fdivN (pv 0) pe_int) pe_int) (fun _ _ => rfl)))))), ?_⟩
    have b := fmod_in (c.fdiv 2) (m := 9) (by decide)
    have iv : ∀ (y : Option V) H1, Vl (tOp (rI (fun _ j => j ≠ 0) fun i j => .int (i.fmod j)) (tOp (rI CDivN fun i j => .int (i.fdiv j)) (tVar 0) (tC (.int 2))) (tC (.int 9))) [some (.int c), y] H1 (.int ((c.fdiv 2).fmod 9)) := fun y H1 =>
      v_op (v_op (v_slot rfl) v_con (bi_C ⟨by decide, by decide⟩)) v_con (bi_C (show (9 : Int) ≠ 0 by decide))
    refine' B_setR (r_lst (R := NoStrs K 9) ?a (fun vs _ h => by rw [h.1]; decide) (fun g h => ⟨h.1, fun v hv => (h.2 v hv).mono g⟩)) ?k
    case a =>
      refine a_cons (vr_v v_con fun _ => .non) (a_cons (vr_v v_con fun _ => .bl) (a_cons (vr_v v_con fun _ => .bl) (a_cons (vr_v v_con fun _ => .int) (a_cons (vr_v v_con fun _ => .int) (a_cons (vr_l (l_lst g_nil (by decide)))
        (a_cons (vr_l (l_lst (g_cons v_con g_nil) (by decide))) (a_cons (vr_u (u_tup (g_cons v_con g_nil) (by decide))) (a_cons ?_ a_nil))))))))
      intro H1 Q1 g q1 p hp
      refine ⟨upd_same, [(Sum.inr (Str.ofString "a"), .int 1)], rfl, by decide, q1 _ _ ?_ (.dK upd_same)⟩
      rw [upd_upd]
      exact .new hp
    rintro v H1 e1 ⟨p, xs, rfl, hp, hl, ha⟩
    replace q := q.mono e1
    refine' B_when ?h ?k1 ?k2
    (case h => walk_at "et")
    all_goals intro hb H2 e2
    · refine S_retR (r_ix (S := NoStr K) (R := fun v _ => v = .ref p) (v_slot rfl).toR (fun _ _ => iv _ _) (fun v H3 g ev => ⟨p, xs, _, ev, (e2.trans g).lst hp, atI_in .non b.1 (by rw [hl]; exact b.2), ?_⟩) NoStr.mono) fun v H3 e3 hv => q v H3 (e2.trans e3) (.inr hv)
      refine (ha _ ?_).mono (e2.trans g)
      rw [List.getD_eq_getElem?_getD, List.getElem?_eq_getElem (by omega)]
      exact List.getElem_mem _
    · refine S_retR (r_ix (S := Any K) (Ls.toR (l_lst (g_cons v_con (g_cons v_con (g_cons v_con (g_cons v_con (g_cons v_con (g_cons v_con (g_cons v_con (g_cons v_con (g_cons v_con g_nil))))))))) (by decide))) (fun _ _ => iv _ _) (fun v H3 g hv => ?_) Any.mono) fun v H3 e3 hv => q v H3 (e2.trans e3) hv
      obtain ⟨p2, ev, hp2⟩ := hv
      refine ⟨p2, _, _, ev, hp2, atI_in .non b.1 b.2, ?_⟩
      have all : ∀ u ∈ [V.str (Str.ofString "read"), V.str (Str.ofString "write"), V.str (Str.ofString "Read"), V.str (Str.ofString "WRITE"), V.str (Str.ofString "reads"), V.str (Str.ofString "writ"), V.str (Str.ofString " read"), V.str (Str.ofString "write "), V.str (Str.ofString "readwrite")], Any K u H3 := by
        intro u hu
        simp only [List.mem_cons, List.not_mem_nil, or_false] at hu
        rcases hu with rfl | rfl | rfl | rfl | rfl | rfl | rfl | rfl | rfl <;> exact .inl ⟨_, rfl, by decide +kernel, by unfold Asc; decide +kernel⟩
      refine all _ ?_
      rw [List.getD_eq_getElem?_getD, List.getElem?_eq_getElem (by have h9 := b.2; show _ < 9; omega)]
      exact List.getElem_mem _
theorem ok_Name (T : Top K mg) (TB : Tabs T base) : FnOk P w K mg base CX0 1 T.f_Name T.fd_Name ["_law_thing"] (spLawName K) := by
  refine T.F_Name.ok scName (fun vs H Q E h => ?_) (fun cdv A outer s H vs Q E hr h => ?_)
  · obtain ⟨v, rfl, hv⟩ := h
    rfl
  · obtain ⟨v, rfl, hv⟩ := h
    refine ⟨_, (pss_cons (ps_if (PW.pt (pw_or (pt_not (pt_val (pe_callB call_isi (by rfl) T.m_isinstance (by decide +kernel) (pa_cons (pv 0) (pa_cons (pe_bltn (v := .ty "str") (by rfl) T.m_str (by decide +kernel) rfl) pa_nil))))) (pw_or (pt_cmpR op_lt (pe_callB call_len_str (by rfl) T.m_len PySem.boot_len (pa_cons (pv 0) pa_nil)) pe_int (nomark _)) (pw_or1 (pt_cmpR op_gt (pe_callB call_len_str (by rfl) T.m_len PySem.boot_len (pa_cons (pv 0) pa_nil)) pe_int (nomark _))))))
      (pss_one (ps_ret pe_bl))
      pss_nil)
      (pss_cons (ps_set (i := 1) scName.nd rfl (Or.inr rfl) pe_str)
      (pss_one (ps_ret (pe_cmpR (op_eqD hr.units) (pe_lc (own := [("_law_sign", 2)]) rfl scName.nd (pi_str (pv 0)) (blkOk_by (own := [("_law_sign", 2)]) (N := nmName) (sc := defScope sName) (by decide +kernel)) (fun _ _ _ _ _ => (pg_name (i := 2) scName.nd rfl (Or.inl rfl))) (fun _ _ _ _ _ => (pts_one (pt_cmpR op_notInS (pv 2) (pv 1) rfl))) (fun _ _ _ _ _ => (pv 2))) (pe_lst pa_nil) (nomark _)))))), ?_⟩
    rcases hv with ⟨z, rfl, hz, hasc, q⟩ | ⟨hn, q⟩
    · refine' B_when ?h ?k1 ?k2
      (case h => refine' s_or (s_not (s_B (v_issS (v_slot rfl)))) (fun _ => s_or (s_test (v_op (v_lenS (v_slot rfl) hz) v_con bi_0)) (fun _ => s_test (v_op (v_lenS (v_slot rfl) hz) v_con bi_0))))
      all_goals intro hb H1 e1
      · refine S_ret v_con fun H2 e2 => ?_
        have e : nameB z = false := by
          unfold nameB
          have h1 : (decide (1 ≤ (z.length : Int)) && decide ((z.length : Int) ≤ 12)) = false := by
            simp only [Bool.not_true, Bool.false_or, Bool.or_eq_true, decide_eq_true_eq] at hb
            simp only [Bool.and_eq_false_iff, decide_eq_false_iff_not]
            omega
          rw [h1]
          rfl
        rw [e] at q
        exact q H2 (e1.trans e2)
      · have e : nameB z = ((List.range z.cps.toList.length).filter fun m => !decide (z.cps.toList.getD m 0 ∈ signs.cps.toList)).isEmpty := by
          unfold nameB
          have h1 : (decide (1 ≤ (z.length : Int)) && decide ((z.length : Int) ≤ 12)) = true := by
            simp only [Bool.not_true, Bool.false_or, Bool.or_eq_false_iff, decide_eq_false_iff_not] at hb
            simp only [Bool.and_eq_true, decide_eq_true_eq]
            omega
          rw [h1, Bool.true_and]
          exact (none_out z.cps.toList fun k => decide (k ∈ signs.cps.toList)).symm
        rw [e] at q
        replace q := q.mono e1
        refine' B_set v_con ?kk
        intro H2 e2
        have sz : z.cps.size = z.cps.toList.length := Array.length_toList.symm
        have le : z.cps.size ≤ 40000 := by
          simp only [Bool.not_true, Bool.false_or, Bool.or_eq_false_iff, decide_eq_false_iff_not] at hb
          show z.length ≤ 40000
          omega
        refine' S_ret (v_opR (Ls.toR (l_cmpS (w := z) (fun m => !decide (z.cps.toList.getD m 0 ∈ signs.cps.toList)) (fun m => V.str ⟨#[z.cps.toList.getD m 0]⟩) (v_slot rfl) le (fun _ => rfl) ?ht ?he)) (fun g h => ⟨h.choose, h.choose_spec.1, g.lst h.choose_spec.2⟩) (fun x H1 g hx => Ls.toR (l_lst g_nil (by decide))) ?o) ?kk2
        case ht =>
          intro m k H3 g hk
          rw [cps_getD hk]
          exact s_test (v_op (v_slot rfl) (v_slot rfl) bi_notInS)
        case he =>
          intro m k H3 g hk _
          rw [cps_getD hk]
          exact v_slot rfl
        case o =>
          rintro _ _ H3 g ⟨p, rfl, hp⟩ ⟨p2, rfl, hp2⟩
          have eo : out z.cps.size (fun m => !decide (z.cps.toList.getD m 0 ∈ signs.cps.toList)) (fun m => V.str ⟨#[z.cps.toList.getD m 0]⟩) = (((List.range z.cps.size).filter fun m => !decide (z.cps.toList.getD m 0 ∈ signs.cps.toList)).map fun m => (⟨#[z.cps.toList.getD m 0]⟩ : Str)).map V.str := by
            unfold out
            rw [List.map_map]
            rfl
          rw [eo] at hp
          refine bi_eqD (.lst (SqL.of hp) (dps_str _)) (.lst (SqL.of hp2) .nil) (shaped_strs _ ?_) (by decide +kernel)
          intro a ha
          obtain ⟨m, hm, rfl⟩ := List.mem_map.mp ha
          refine Asc.one ?_
          rw [List.getD_eq_getElem?_getD]
          cases em : z.cps.toList[m]? with
          | none => show 0 < 128; decide
          | some k => exact hasc k (List.mem_of_getElem? em)
        intro H3 e3
        rw [eqv_nil, List.isEmpty_map, List.isEmpty_map, sz]
        exact q H3 (e2.trans e3)
    · refine B_when (s_or (c := false) (s_not (s_B (v_nostr (v_slot rfl) hn))) (fun hb => absurd hb (by decide))) (fun _ H1 e1 => ?_) (fun hb => absurd hb (by decide))
      exact S_ret v_con fun H2 e2 => q H2 (e1.trans e2)
theorem ok_Law (T : Top K mg) (TB : Tabs T base) : FnOk P w K mg base CX0 2 T.f_Law T.fd_Law ["_law_script"] (spLaw K T.ta_IsName) := by
  have GIsName := ok_IsName (P := P) (w := w) (base := base) T TB
  have GIsWish := ok_IsWish (P := P) (w := w) (base := base) T TB
  have GCell := ok_Cell (P := P) (w := w) (base := base) T TB
  have GThing := ok_Thing (P := P) (w := w) (base := base) T TB
  have GSign := ok_Sign (P := P) (w := w) (base := base) T TB
  have GName := ok_Name (P := P) (w := w) (base := base) T TB
  have GOther := ok_Other (P := P) (w := w) (base := base) T TB
  refine T.F_Law.ok scLaw (fun vs H Q E h => ?_) (fun cdv A outer s H vs Q E hr h => ?_)
  · obtain ⟨a, ns, rfl, hS, hT, hlen, q⟩ := h
    rfl
  · obtain ⟨a, ns, rfl, hS, hT, hlen, q⟩ := h
    refine ⟨_, (pss_cons (ps_set (i := 1) scLaw.nd rfl (Or.inl rfl) pe_str)
      (pss_cons (ps_set (i := 2) scLaw.nd rfl (Or.inl rfl) (pe_op op_modN (pe_call GCell hr (by rfl) T.g_Cell T.F_Cell.kp T.B_Cell .nil pass0 (pa_cons (pv 0) (pa_cons pe_int pa_nil))) pe_int))
      (pss_cons (ps_for PassesOwn.never rfl (pi_range1 (by rfl) T.m_range (pa_cons (pv 2) pa_nil)) (pg_name (i := 3) scLaw.nd rfl (Or.inl rfl))
      (pss_one (ps_set (i := 1) scLaw.nd rfl (Or.inl rfl) (pe_op op_add_str (pv 1) (pe_call GSign hr (by rfl) T.g_Sign T.F_Sign.kp T.B_Sign .nil pass0 (pa_cons (pe_call GCell hr (by rfl) T.g_Cell T.F_Cell.kp T.B_Cell .nil pass0 (pa_cons (pv 0) (pa_cons (pe_op op_add pe_int (pv 3)) pa_nil))) pa_nil))))))
      (Evl.pss_cut (ps_if (PW.pt (pw_and (pt_cmpR op_gt (pv 2) pe_int (nomark _)) (pw_and1 (pt_cmpR op_eq (pe_op op_modN (pe_op op_fdivN (pe_call GCell hr (by rfl) T.g_Cell T.F_Cell.kp T.B_Cell .nil pass0 (pa_cons (pv 0) (pa_cons pe_int pa_nil))) pe_int) pe_int) pe_int (nomark _)))))
      (pss_cons (ps_set (i := 4) scLaw.nd rfl (Or.inl rfl) (pe_op op_modN (pe_call GCell hr (by rfl) T.g_Cell T.F_Cell.kp T.B_Cell .nil pass0 (pa_cons (pv 0) (pa_cons pe_int pa_nil))) (pv 2)))
      (pss_one (ps_set (i := 1) scLaw.nd rfl (Or.inl rfl) (pe_op op_add_str (pe_op op_add_str (pe_slice sl_str (pv 1) po_none (po_some (pv 4))) (pe_call GOther hr (by rfl) T.g_Other T.F_Other.kp T.B_Other .nil pass0 (pa_cons (pe_call GCell hr (by rfl) T.g_Cell T.F_Cell.kp T.B_Cell .nil pass0 (pa_cons (pv 0) (pa_cons pe_int pa_nil))) pa_nil))) (pe_slice sl_str (pv 1) (po_some (pe_op op_add (pv 4) pe_int)) po_none)))))
      pss_nil)
      (Evl.pss_cut (ps_if (pt_cmpR op_eq (pe_op op_modN (pe_call GCell hr (by rfl) T.g_Cell T.F_Cell.kp T.B_Cell .nil pass0 (pa_cons (pv 0) (pa_cons pe_int pa_nil))) pe_int) pe_int (nomark _))
      (pss_one (ps_set (i := 1) scLaw.nd rfl (Or.inl rfl) (pe_call GThing hr (by rfl) T.g_Thing T.F_Thing.kp T.B_Thing .nil pass0 (pa_cons (pe_call GCell hr (by rfl) T.g_Cell T.F_Cell.kp T.B_Cell .nil pass0 (pa_cons (pv 0) (pa_cons pe_int pa_nil))) pa_nil))))
      pss_nil)
      (pss_cons (ps_set (i := 5) scLaw.nd rfl (Or.inl rfl) (pe_call GIsName hr (by rfl) T.g_IsName T.F_IsName.kp T.B_IsName .nil pass0 (pa_cons (pv 1) pa_nil)))
      (pss_cons (ps_set (i := 6) scLaw.nd rfl (Or.inl rfl) (pe_call GIsWish hr (by rfl) T.g_IsWish T.F_IsWish.kp T.B_IsWish .nil pass0 (pa_cons (pv 1) pa_nil)))
      (pss_cons (ps_if (PW.pt (pw_or (pt_not (pt_val (pe_callB call_isi (by rfl) T.m_isinstance (by decide +kernel) (pa_cons (pv 5) (pa_cons (pe_bltn (v := .ty "bool") (by rfl) T.m_bool (by decide +kernel) rfl) pa_nil))))) (pw_or1 (pt_not (pt_val (pe_callB call_isi (by rfl) T.m_isinstance (by decide +kernel) (pa_cons (pv 6) (pa_cons (pe_bltn (v := .ty "bool") (by rfl) T.m_bool (by decide +kernel) rfl) pa_nil))))))))
      (pss_one (ps_ret pe_bl))
      pss_nil)
      (pss_cons (ps_set (i := 7) scLaw.nd rfl (Or.inl rfl) (pe_and (pe_callB call_isi (by rfl) T.m_isinstance (by decide +kernel) (pa_cons (pv 1) (pa_cons (pe_bltn (v := .ty "str") (by rfl) T.m_str (by decide +kernel) rfl) pa_nil))) (pe_one (pe_or (pe_cmpR op_eq (pv 1) pe_str (nomark _)) (pe_one (pe_cmpR op_eq (pv 1) pe_str (nomark _)))))))
      (pss_one (ps_ret (pe_and (pe_cmpR op_eq (pv 5) (pe_call GName hr (by rfl) T.g_Name T.F_Name.kp T.B_Name .nil pass0 (pa_cons (pv 1) pa_nil)) (nomark _)) (pe_one (pe_cmpR op_eq (pv 6) (pv 7) (nomark _))))))))))))))), ?_⟩
    have sc : ∀ {H1 : Hp} {i : Int} (k : Nat), i = (k : Int) → Gr H H1 → SpV (spCell K) [.ref a, .int i] H1 (.int (cellAt ns k)) := fun k e g => sv_cell k e (g.sl hS)
    -- thing = ''; many = ..
    refine' B_set v_con ?k1
    intro H1 e1
    refine' B_set (v_op (v_call (g_cons (v_slot rfl) (g_cons v_con g_nil)) (sc 0 rfl e1)) v_con (bi_C (show (15 : Int) ≠ 0 by decide))) ?k2
    intro H2 e2
    replace e2 := e1.trans e2
    have bm := fmod_in (cellAt ns 0) (m := 15) (by decide)
    generalize (cellAt ns 0).fmod 15 = many at bm ⊢
    -- the text, sign by sign
    refine' B_for1 (g_cons (v_slot rfl) g_nil) (by omega) (fun m σ' H' => ∃ z y3, σ' = [some (.ref a), some (.str z), some (.int many), y3, none, none, none, none] ∧ z.length ≤ m ∧ Asc z ∧ Gr H H') ?h0 ?hs ?hd
    case h0 =>
      intro H3 g
      exact ⟨_, none, rfl, Nat.le_refl _, fun k hk => absurd hk List.not_mem_nil, e2.trans g⟩
    case hs =>
      rintro m σ' H' hm ⟨z, y3, rfl, hz, asc, g⟩
      refine S_setR (R := fun v _ => ∃ z2, v = .str z2 ∧ z2.length ≤ m + 1 ∧ Asc z2) (r_op (v_slot rfl) (r_call (g_cons (v_call (g_cons (v_slot rfl) (g_cons (v_op v_con (v_slot rfl) bi_0) g_nil)) (sc (2 + m) (by omega) g)) g_nil) sr_char) ?_) ?_
      · rintro _ H3 g3 ⟨k, rfl, hk⟩
        have l : (⟨#[k]⟩ : Str).length = 1 := rfl
        exact ⟨.str (z ++ ⟨#[k]⟩), fun _ _ => ⟨_, rfl, by rw [cat_len, l]; omega, asc.cat (.one hk)⟩, bi_cat (by rw [l]; omega)⟩
      · rintro _ H3 g3 ⟨z2, rfl, hz2, asc2⟩
        exact ⟨z2, _, rfl, hz2, asc2, g.trans g3⟩
    rintro σ' H3 ⟨z, y3, rfl, hz, asc, g3⟩
    replace hz : z.length ≤ 14 := by omega
    clear e1 e2 H1 H2
    -- another sign at a place
    refine' B_cut (M := fun σ' H' => ∃ z y4, σ' = [some (.ref a), some (.str z), some (.int many), y3, y4, none, none, none] ∧ z.length ≤ 50 ∧ Asc z ∧ Gr H H') ?c1 ?c2
    case c1 =>
      refine' S_when (s_and (b := decide (0 < many)) (s_test (v_op (v_slot rfl) v_con bi_0)) (fun _ => s_test (v_op (v_op (v_op (v_call (g_cons (v_slot rfl) (g_cons v_con g_nil)) (sc 0 rfl g3)) v_con (bi_C ⟨by decide, by decide⟩)) v_con (bi_C (show (2 : Int) ≠ 0 by decide))) v_con (bi_eq rfl)))) ?y ?n
      case n =>
        intro _ H4 g4
        exact ⟨z, none, rfl, by omega, asc, g3.trans g4⟩
      case y =>
        intro hb H4 g4
        have pos : 0 < many := of_decide_eq_true (Bool.and_eq_true_iff.mp hb).1
        replace g4 := g3.trans g4
        refine' B_set (v_op (v_call (g_cons (v_slot rfl) (g_cons v_con g_nil)) (sc 17 rfl g4)) (v_slot rfl) (bi_C (show many ≠ 0 by omega))) ?k3
        intro H5 g5
        replace g5 := g4.trans g5
        generalize (cellAt ns 17).fmod many = pl
        refine S_setR (R := fun v _ => ∃ z2, v = .str z2 ∧ z2.length ≤ 50 ∧ Asc z2) (r_opV (R := fun v _ => ∃ z2, v = .str z2 ∧ z2.length ≤ 20 ∧ Asc z2) (r_op (v_slS (v_slot rfl) p_no (p_int (v_slot rfl)) (by omega)) (r_call (g_cons (v_call (g_cons (v_slot rfl) (g_cons v_con g_nil)) (sc 18 rfl g5)) g_nil) sr_char) ?_) (fun H6 g6 => v_slS (v_slot rfl) (p_int (v_op (v_slot rfl) v_con bi_0)) p_no (by omega)) ?_) ?_
        · rintro _ H6 g6 ⟨k, rfl, hk⟩
          have l : (⟨#[k]⟩ : Str).length = 1 := rfl
          have l2 := cut_len z none (some pl)
          exact ⟨.str (cutS z none (some pl) ++ ⟨#[k]⟩), fun _ _ => ⟨_, rfl, by rw [cat_len, l]; omega, (asc.cut _ _).cat (.one hk)⟩, bi_cat (by rw [l]; omega)⟩
        · rintro _ H6 g6 ⟨z2, rfl, hz2, asc2⟩
          have l2 := cut_len z (some (pl + 1)) none
          exact ⟨.str (z2 ++ cutS z (some (pl + 1)) none), fun _ _ => ⟨_, rfl, by rw [cat_len]; omega, asc2.cat (asc.cut _ _)⟩, bi_cat (by omega)⟩
        · rintro _ H6 g6 ⟨z2, rfl, hz2, asc2⟩
          exact ⟨z2, _, rfl, hz2, asc2, g5.trans g6⟩
    rintro σ' H4 ⟨z2, y4, rfl, hz2, asc2, g4⟩
    clear asc hz g3
    -- a thing in its place
    refine' B_cut (M := fun σ' H' => ∃ v, σ' = [some (.ref a), some v, some (.int many), y3, y4, none, none, none] ∧ Any K v H' ∧ Gr H H') ?c3 ?c4
    case c3 =>
      refine' S_when (s_test (v_op (v_op (v_call (g_cons (v_slot rfl) (g_cons v_con g_nil)) (sc 1 rfl g4)) v_con (bi_C (show (8 : Int) ≠ 0 by decide))) v_con (bi_eq rfl))) ?y2 ?n2
      case n2 =>
        intro _ H5 g5
        exact ⟨_, rfl, .inl ⟨z2, rfl, by omega, asc2⟩, g4.trans g5⟩
      case y2 =>
        intro hb H5 g5
        replace g5 := g4.trans g5
        refine S_setR (R := Any K) (r_call (g_cons (v_call (g_cons (v_slot rfl) (g_cons v_con g_nil)) (sc 2 rfl g5)) g_nil) fun Ha Qa Ea ga qa => ⟨_, rfl, qa⟩) ?_
        intro v H6 g6 hv
        exact ⟨v, rfl, hv, g5.trans g6⟩
    rintro σ' H5 ⟨v, rfl, hv, g5⟩
    clear asc2 hz2 g4
    replace hT := g5.tab hT
    rcases hv with ⟨u, rfl, hu, asc⟩ | hn
    · refine' B_set (v_call (g_cons (v_slot rfl) g_nil) (sv_kindS hT (by omega))) ?k4
      intro H6 g6
      refine' B_set (v_call (g_cons (v_slot rfl) g_nil) (sv_kindS (g6.tab hT) (by omega))) ?k5
      intro H7 g7
      refine B_when (b := false) (s_or (c := false) (s_not (s_B (v_isbB (v_slot rfl)))) fun _ => s_not (s_B (v_isbB (v_slot rfl)))) (fun hb => absurd hb (by decide)) fun _ H8 g8 => ?_
      refine' B_set (v_and (v_issS (v_slot rfl)) (fun _ => v_or (v_op (v_slot rfl) v_con (bi_eq rfl)) (fun _ => v_op (v_slot rfl) v_con (bi_eq rfl)))) ?k6
      intro H9 g9
      refine' S_ret (v_and (v_op (v_slot rfl) (v_call (g_cons (v_slot rfl) g_nil) (sv_lnS (by omega) asc)) (bi_eq rfl)) (fun _ => v_op (v_slot rfl) (v_slot rfl) (bi_eq rfl))) ?k7
      intro H10 g10
      rw [wish_is, Bool.true_and, decide_eq_true rfl, decide_eq_true rfl]
      exact q _
    · refine' B_set (v_call (g_cons (v_slot rfl) g_nil) (sv_kindN hT hn)) ?k8
      intro H6 g6
      refine' B_set (v_call (g_cons (v_slot rfl) g_nil) (sv_kindN (g6.tab hT) (hn.mono g6))) ?k9
      intro H7 g7
      refine B_when (b := false) (s_or (c := false) (s_not (s_B (v_isbB (v_slot rfl)))) fun _ => s_not (s_B (v_isbB (v_slot rfl)))) (fun hb => absurd hb (by decide)) fun _ H8 g8 => ?_
      replace hn := (((hn.mono g6).mono g7).mono g8)
      refine' B_set (v_and (c := false) (v_nostr (v_slot rfl) hn) (fun hb => absurd hb (by decide))) ?k10
      intro H9 g9
      refine' S_ret (v_and (v_op (v_slot rfl) (v_call (g_cons (v_slot rfl) g_nil) (sv_lnN (hn.mono g9))) (bi_eq rfl)) (fun _ => v_op (v_slot rfl) (v_slot rfl) (bi_eq rfl))) ?k11
      intro H10 g10
      rw [Bool.false_and, decide_eq_true rfl]
      exact q _
end
def dIsName : He.DefD := ⟨("is_name", none), "is_name", "is_name", defArgs sIsName, defBody sIsName, defScope sIsName, [], []⟩
def dIsWish : He.DefD := ⟨("is_wish", none), "is_wish", "is_wish", defArgs sIsWish, defBody sIsWish, defScope sIsWish, [], []⟩
def dCell : He.DefD := ⟨("_law_cell_at", none), "_law_cell_at", "_law_cell_at", defArgs sCell, defBody sCell, defScope sCell, [], []⟩
def dSign : He.DefD := ⟨("_law_sign_by", none), "_law_sign_by", "_law_sign_by", defArgs sSign, defBody sSign, defScope sSign, [], []⟩
def dOther : He.DefD := ⟨("_law_other_by", none), "_law_other_by", "_law_other_by", defArgs sOther, defBody sOther, defScope sOther, [], []⟩
def dThing : He.DefD := ⟨("_law_thing_by", none), "_law_thing_by", "_law_thing_by", defArgs sThing, defBody sThing, defScope sThing, [], []⟩
def dName : He.DefD := ⟨("_law_name", none), "_law_name", "_law_name", defArgs sName, defBody sName, defScope sName, [], []⟩
def dLaw : He.DefD := ⟨("law", none), "law", "law", defArgs sLaw, defBody sLaw, defScope sLaw, [], []⟩
def fns : List He.DefD := [dIsName, dIsWish, dCell, dSign, dOther, dThing, dName, dLaw]
def fas : List He.Fa := [.glo "is_name", .glo "is_wish", .glo "_law_cell_at", .glo "_law_sign_by", .glo "_law_other_by", .glo "_law_thing_by", .glo "_law_name", .glo "law", .free "all", .free "bool", .free "isinstance", .free "len", .free "range", .free "str", .int "NAME_LENGTH" 12, .str "NAME_SIGNS" "abcdefghijklmnopqrstuvwxyz0123456789", .str "READ" "read", .str "WRITE" "write"]
def tfs : List He.Defn := [("is_name", none)]
abbrev Rw : PySem.W.OpenRow := PySem.W.OpenLaw.row PySem.Challenge.rw_readwriteroom_k03_names_and_wishes
abbrev hk : PySem.W.Hook := He.hookX 6 fas fns [] tfs (fun _ => true)
def ob (s : PySem.W.SharedT) : He.AlX := He.obsX 6 fas fns [] tfs (fun _ => true) (HandSHeadRun.getT s)
theorem ob_is (s : PySem.W.SharedT) : ob s = hk.obs s.abs := He.obsX_eq (HandSHeadRun.getT_eq s)
def loose : List PySem.Str := ["READ", "WRITE", "NAME_SIGNS", "NAME_LENGTH", "is_name", "is_wish", "_law_cell_at", "_law_sign_by", "_law_other_by", "_law_thing_by", "_law_name"]
set_option maxHeartbeats 0 in
theorem run (w : World) : HandSHeadRun.RunEq Rw (PySem.W.view Rw.prog [13]) hk ob 2000 loose w := by
  intro os
  kernel_rfl
theorem fun_of {K : PySem.W.Frag} {x z : Str} {st : Stmt} {f : Addr} {fd : FuncData} (F : L2.FunD K x z (defArgs st) (defBody st) (defScope st) [] [] f fd) : Fun K x z st f fd := by
  obtain ⟨oc, od, dV, kV, doc, pm, an, cdv, ct, osl, e, lk, hcd, hD, _⟩ := F.ex
  rcases hD with ⟨_, rfl⟩ | ⟨n, _⟩
  · exact ⟨⟨oc, od, kV, doc, pm, an, cdv, ct, osl, e, lk, hcd⟩, F.kp⟩
  · exact absurd rfl n
theorem code_is {K : PySem.W.Frag} {x z : Str} {st : Stmt} {p : He.Defn} {fd : FuncData} (F : Fun K x z st (He.fAd K p) fd) : fd.code = .ref (He.codeOf K p) := by
  obtain ⟨oc, od, kV, doc, pm, an, cdv, ct, osl, rfl, lk, hcd⟩ := F.ex
  obtain ⟨c, rfl⟩ := He.codeIn_ref hcd
  rw [He.codeOf_eq lk rfl]
theorem tab_is {base : Heap} {mg : Str → Option Value} {p : Addr × Addr} (h : LamX.TabB base mg p.1 p.2) : GxR.TabB base mg p.1 p.2 := ⟨h.code, h.bm, h.gP⟩
theorem facts {P : Program} {w : World} {K : PySem.W.Frag} {h : Heap} {mg : Str → Option Value} {fa : Addr} (X : K.In h) (G : h.Ns mainGlobals mg) (hfa : mg "law" = some (.ref fa)) (c : He.SaysX fas fns [] tfs (fun _ => true) w h K) :
    ∃ (T : Top K mg), T.f_Law = fa ∧ (∀ (s : Shared) (v : Value), BindsTo s T.fd_Law ⟨[v], []⟩ [("_law_script", v)]) ∧ (T.co_IsName, T.ta_IsName) = He.cT K ("is_name", none) := by
  obtain ⟨fd0, D0⟩ := c.t.d.def_ 0 (d := dIsName) rfl
  have F0 : Fun K "is_name" "is_name" sIsName (He.fAd K ("is_name", none)) fd0 := fun_of D0
  have b0 := F0.binds (ps := ["thing"]) fun _ _ _ _ _ _ us hl => match us, hl with | [_], _ => rfl
  obtain ⟨fd1, D1⟩ := c.t.d.def_ 1 (d := dIsWish) rfl
  have F1 : Fun K "is_wish" "is_wish" sIsWish (He.fAd K ("is_wish", none)) fd1 := fun_of D1
  have b1 := F1.binds (ps := ["thing"]) fun _ _ _ _ _ _ us hl => match us, hl with | [_], _ => rfl
  obtain ⟨fd2, D2⟩ := c.t.d.def_ 2 (d := dCell) rfl
  have F2 : Fun K "_law_cell_at" "_law_cell_at" sCell (He.fAd K ("_law_cell_at", none)) fd2 := fun_of D2
  have b2 := F2.binds (ps := ["_law_script", "_law_k"]) fun _ _ _ _ _ _ us hl => match us, hl with | [_, _], _ => rfl
  obtain ⟨fd3, D3⟩ := c.t.d.def_ 3 (d := dSign) rfl
  have F3 : Fun K "_law_sign_by" "_law_sign_by" sSign (He.fAd K ("_law_sign_by", none)) fd3 := fun_of D3
  have b3 := F3.binds (ps := ["_law_cell"]) fun _ _ _ _ _ _ us hl => match us, hl with | [_], _ => rfl
  obtain ⟨fd4, D4⟩ := c.t.d.def_ 4 (d := dOther) rfl
  have F4 : Fun K "_law_other_by" "_law_other_by" sOther (He.fAd K ("_law_other_by", none)) fd4 := fun_of D4
  have b4 := F4.binds (ps := ["_law_cell"]) fun _ _ _ _ _ _ us hl => match us, hl with | [_], _ => rfl
  obtain ⟨fd5, D5⟩ := c.t.d.def_ 5 (d := dThing) rfl
  have F5 : Fun K "_law_thing_by" "_law_thing_by" sThing (He.fAd K ("_law_thing_by", none)) fd5 := fun_of D5
  have b5 := F5.binds (ps := ["_law_cell"]) fun _ _ _ _ _ _ us hl => match us, hl with | [_], _ => rfl
  obtain ⟨fd6, D6⟩ := c.t.d.def_ 6 (d := dName) rfl
  have F6 : Fun K "_law_name" "_law_name" sName (He.fAd K ("_law_name", none)) fd6 := fun_of D6
  have b6 := F6.binds (ps := ["_law_thing"]) fun _ _ _ _ _ _ us hl => match us, hl with | [_], _ => rfl
  obtain ⟨fd7, D7⟩ := c.t.d.def_ 7 (d := dLaw) rfl
  have F7 : Fun K "law" "law" sLaw (He.fAd K ("law", none)) fd7 := fun_of D7
  have b7 := F7.binds (ps := ["_law_script"]) fun _ _ _ _ _ _ us hl => match us, hl with | [_], _ => rfl
  obtain ⟨t_NAME_LENGTH, y_NAME_LENGTH⟩ := He.int_ok X G (c.t.d.fact 14 (f := .int "NAME_LENGTH" 12) rfl)
  obtain ⟨t_NAME_SIGNS, y_NAME_SIGNS⟩ := He.str_ok X G (c.t.d.fact 15 (f := .str "NAME_SIGNS" "abcdefghijklmnopqrstuvwxyz0123456789") rfl)
  obtain ⟨t_READ, y_READ⟩ := He.str_ok X G (c.t.d.fact 16 (f := .str "READ" "read") rfl)
  obtain ⟨t_WRITE, y_WRITE⟩ := He.str_ok X G (c.t.d.fact 17 (f := .str "WRITE" "write") rfl)
  have e := hfa.symm.trans (He.glo_ok X G (c.t.d.fact 7 (f := .glo "law") rfl))
  have b := FunD.bindsA (ps := ["_law_script"]) D7 fun _ _ _ _ _ _ us hl => match us, hl with | [_], _ => rfl
  exact ⟨⟨_, fd0, F0, b0, He.glo_ok X G (c.t.d.fact 0 (f := .glo "is_name") rfl), _, (He.cT K ("is_name", none)).2, code_is F0, _, fd1, F1, b1, He.glo_ok X G (c.t.d.fact 1 (f := .glo "is_wish") rfl), _, fd2, F2, b2, He.glo_ok X G (c.t.d.fact 2 (f := .glo "_law_cell_at") rfl), _, fd3, F3, b3, He.glo_ok X G (c.t.d.fact 3 (f := .glo "_law_sign_by") rfl), _, fd4, F4, b4, He.glo_ok X G (c.t.d.fact 4 (f := .glo "_law_other_by") rfl), _, fd5, F5, b5, He.glo_ok X G (c.t.d.fact 5 (f := .glo "_law_thing_by") rfl), _, fd6, F6, b6, He.glo_ok X G (c.t.d.fact 6 (f := .glo "_law_name") rfl), _, fd7, F7, b7, He.glo_ok X G (c.t.d.fact 7 (f := .glo "law") rfl), He.free_ok X G (c.t.d.fact 8 (f := .free "all") rfl), He.free_ok X G (c.t.d.fact 9 (f := .free "bool") rfl), He.free_ok X G (c.t.d.fact 10 (f := .free "isinstance") rfl), He.free_ok X G (c.t.d.fact 11 (f := .free "len") rfl), He.free_ok X G (c.t.d.fact 12 (f := .free "range") rfl), He.free_ok X G (c.t.d.fact 13 (f := .free "str") rfl), t_NAME_LENGTH, y_NAME_LENGTH, t_NAME_SIGNS, y_NAME_SIGNS, t_READ, y_READ, t_WRITE, y_WRITE⟩, (Value.ref.inj (Option.some.inj e)).symm, fun s v => b s [v] rfl, rfl⟩
end RR
open PySem PySem.W PySem.Calls PyProof.Rows in
set_option maxHeartbeats 0 in
theorem PySem.Challenge.cw_readwriteroom_k03_names_and_wishes_holds : PySem.Challenge.rw_readwriteroom_k03_names_and_wishes.Holds := by
  w_on; o_law
  refine HandSHeadRun.head_any (r := RR.Rw) (q := view (RR.Rw).prog [13]) (H := RR.hk) (ob := RR.ob) (M := 2000) (loose := RR.loose) (d := HandSHeadRun.topDef (RR.Rw).prog 13) (kwd := []) RR.ob_is
    (by kernel_rfl) (fun s => by kernel_rfl) RR.run (by kernel_rfl) (by kernel_rfl) (by kernel_rfl) (by rfl) (by first | assumption | decide +kernel) (by decide +kernel) ⟨rfl, rfl, rfl, rfl, rfl, by decide +kernel⟩ ?hw ?hc
  case hw => w_witness2
  case hc =>
    refine LamX.walk_ofTsE (l := PySem.Challenge.rw_readwriteroom_k03_names_and_wishes) (n := 63) (k := 2) (x := "_law_script") (CX := fun _ => L2.CX0) rfl (by decide) (by kernel_rfl) ⟨rfl, by decide, by decide⟩ ?F (fun _ _ _ _ _ z => z)
    intro w mg fa h Y G hmg0
    obtain ⟨K, KX, c⟩ := Y
    have hmg : mg ("law" : PySem.Str) = some (.ref fa) := by
      have e : (HandSHeadRun.topDef (RR.Rw).prog 13).name = ("law" : PySem.Str) := by kernel_rfl
      rw [← e]
      exact hmg0
    obtain ⟨T, rfl, hb, eIsName⟩ := RR.facts (P := (PySem.Challenge.rw_readwriteroom_k03_names_and_wishes).prog) (w := w) KX G hmg c
    have mem : ∀ p ∈ ([(T.co_IsName, T.ta_IsName)] : List (Addr × Addr)), ∃ z ∈ RR.tfs, p = He.cT K z := by
      intro p hp
      simp only [List.mem_cons, List.not_mem_nil, or_false] at hp
      exact ⟨("is_name", none), by simp [RR.tfs], by rw [hp]; exact eIsName⟩
    refine ⟨K, KX, T.fd_Law, [(T.co_IsName, T.ta_IsName)], RR.spLaw K T.ta_IsName, fun p hp => ?_, fun p hp => ?_, fun p hp => ?_, hb, fun H a ns hl _ hT hS => ?_, fun base _ _ TB => ?_⟩
    · obtain ⟨z, hz, rfl⟩ := mem p hp
      exact c.empty z hz
    · obtain ⟨z, hz, rfl⟩ := mem p hp
      exact c.out z hz
    · obtain ⟨z, hz, rfl⟩ := mem p hp
      exact codeHd_of_K KX (c.hd z hz)
    · exact RR.law_pre T H a ns hl hS (fun p hp => ⟨#[], hT p hp, trivial⟩)
    · exact RR.ok_Law T ⟨RR.tab_is (TB (T.co_IsName, T.ta_IsName) (by simp))⟩

