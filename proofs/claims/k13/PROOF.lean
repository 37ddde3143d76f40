import PyProof.Rows.All
import HandS.ForMost
import HandS.ExcInit
import HandS.ExcField
import HandS.ExcValue
import HandS.ExcIs
import HandS.FStr
import HandS.ClsMeth
import HandS.Ends
import PyProof.ReprRoads
import KE.KExcIs
import KE.KIsAll
import HandS.HeadHook4
import HandS.HeadWalk
import HandS.Head2
import HandS.AnyAll
import HandS.StrMore
import HandS.IsInst
import HandS.More
import HandS.Flow
import HandS.Style
import HandS.WideBits
import HandS.Text
import PyProof.ReprBulk
import KE.DatumOrd
import HandS.TupLe
import PySem.Challenge.RW_bitneed_k13_ways_and_what_facts_are
set_option Elab.async false
set_option linter.all false
set_option maxRecDepth 100000
set_option maxHeartbeats 2000000
namespace K13
open PySem PySem.Spec PyProof.Rows L2
/-! ### the text -/
def top (i : Nat) : Stmt := PySem.Challenge.pw_bitneed_k13_ways_and_what_facts_are.main.body.getD i (.Pass ⟨0, 0, 0, 0⟩)
abbrev FnP (K : PySem.W.Frag) (x : PySem.Str) (st : Stmt) (f : Addr) (fd : FuncData) : Prop := FunD K x x (defArgs st) (defBody st) (defScope st) [] [] f fd
/-! ### rules of our own -/
section
variable {X : Cx}
/-- a list that is only read, and a new one behind it -/
theorem op_catR : OpR X (binaryOp .Add) (fun x y H Q => ∃ l b xs zs, x = .ref l ∧ y = .ref b ∧ SqL X.K H l xs ∧ H b = some (.lst zs) ∧ xs.length + zs.length ≤ sizeLine ∧ ∀ p, H p = none → Q (.ref p) (upd H p (.lst (xs ++ zs)))) := by
  intro pins s σ H x y v u Q I rx ry h
  obtain ⟨l, b, xs, zs, rfl, rfl, hs, hB, hz, q⟩ := h
  cases rx
  cases ry
  obtain ⟨its, rv, ⟨o, n, ho, hc, hdn, hd⟩, hlen⟩ := I.list hs
  obtain ⟨cls, dd, data, sl⟩ := o
  obtain rfl : cls = Value.type "list" := hc
  obtain rfl : data = Data.seq its.toArray n := hd
  obtain ⟨z2, its2, n2, r2, hl2, e2⟩ := I.lstM hB
  have hl := rv.length
  have ea : its.toArray ++ its2.toArray = (its ++ its2).toArray := by simp
  refine concat_meets ⟨_, ho, rfl⟩ ⟨_, e2, rfl⟩ noFill_list_add seq_list_add PySem.F.slot_list_add PySem.F.entry_list_add (PySem.F.args_list_add_2 _ _)
    (list_addW l b its.toArray its2.toArray n n2 dd none sl #[] (by rw [List.size_toArray, List.size_toArray, ← hl, ← hl2]; exact hz)) ⟨ho, e2, ?_⟩
  rw [ea]
  exact ⟨.ref _, _, I.lnew (t' := s.toks) (rv.append r2) (by rw [List.length_append]; exact hz), rfl, q _ I.fresh⟩
end
/-- a def whose code object is told -/
theorem okC {P : Program} {w : World} {K : PySem.W.Frag} {mg : PySem.Str → Option Value} {base : Heap} {x : PySem.Str} {st : Stmt} {fd : FuncData} {N ps : List PySem.Str} {k : Nat} {sp : Sp} {p : PySem.Str × Option PySem.Str} (F : FnP K x st (He.fAd K p) fd) (S : FnScope N ps (defScope st))
    (len : ∀ vs H Q E, sp vs H Q E → vs.length = ps.length)
    (hbody : ∀ (A : Around) (outer : List Env) (s : Shared) (H : Hp) (vs : List V) (Q : VK) (E : XK), Room k (A.deeper (envOfC x (defScope st) s.heap.objs.size (He.fAd K p) (.ref (He.codeOf K p)))) → sp vs H Q E →
      ∃ t, PSs (cxOf CX0 P w K mg base N x (defScope st) (He.fAd K p) (.ref (He.codeOf K p)) A outer s H E).nox (defBody st) t ∧ t { nx := fun _ H' => Q .non H', rt := Q } (start N vs) H) : FnOk P w K mg base CX0 (k + 1) (He.fAd K p) fd ps sp := by
  obtain ⟨oc, od, dV, kV, doc, pm, an, cdv, ct, osl, rfl, lk, hcd, _, _⟩ := F.ex
  obtain ⟨c, rfl⟩ := He.codeIn_ref hcd
  have e : He.codeOf K p = c := He.codeOf_eq lk rfl
  subst e
  refine fn_of lk hcd S len fun A outer s H vs Q E hr hsp => ?_
  obtain ⟨t, h, q⟩ := hbody A outer s H vs Q E hr hsp
  exact ⟨t, h.nox, q⟩
/-! ### what stays -/
/-- an object of the heap ahead, as it may stand behind: tables may have grown -/
def Ko (o : HO) (x : Option HO) : Prop := match o with
  | .tbl ps => ∃ qs, x = some (.tbl qs) ∧ (TriplesOk ps.toList → TriplesOk qs.toList)
  | o => x = some o
theorem ko_refl (o : HO) : Ko o (some o) := by
  cases o <;> first | rfl | exact ⟨_, rfl, fun h => h⟩
theorem ko_some {o : HO} {x : Option HO} (h : Ko o x) : ∃ u, x = some u := by
  cases o <;> first | exact ⟨_, h⟩ | (obtain ⟨qs, e, _⟩ := h; exact ⟨_, e⟩)
theorem ko_trans {o : HO} {x y : Option HO} (h : Ko o x) (k : ∀ u, x = some u → Ko u y) : Ko o y := by
  cases o <;> first | exact k _ h | (obtain ⟨qs, e, z⟩ := h; obtain ⟨rs, e2, z2⟩ := k _ e; exact ⟨rs, e2, fun q => z2 (z q)⟩)
/-- all that was tracked stands, but what stands at the addresses for which D holds -/
def Kept (D : Addr → Prop) (H H' : Hp) : Prop := ∀ b o, H b = some o → ¬ D b → Ko o (H' b)
theorem Kept.refl {D : Addr → Prop} {H : Hp} : Kept D H H := fun b o e _ => by rw [e]; exact ko_refl o
theorem Kept.trans {D : Addr → Prop} {H H1 H2 : Hp} (a : Kept D H H1) (b : Kept D H1 H2) : Kept D H H2 := fun c o e n => ko_trans (a c o e n) fun u q => b c u q n
theorem Kept.weak {D D' : Addr → Prop} {H H1 : Hp} (a : Kept D H H1) (h : ∀ b, D b → D' b) : Kept D' H H1 := fun c o e n => a c o e fun d => n (h c d)
theorem Kept.new {D : Addr → Prop} {H H1 : Hp} {p : Addr} {o : HO} (a : Kept D H H1) (n : H p = none) : Kept D H (upd H1 p o) := fun c u e d => by
  rw [upd_ne (ne_of_none e n)]
  exact a c u e d
theorem Kept.upd {D : Addr → Prop} {H H1 : Hp} {p : Addr} {o : HO} (a : Kept D H H1) (d : D p) : Kept D H (upd H1 p o) := fun c u e n => by
  rw [upd_ne (fun z => n (by rw [z]; exact d))]
  exact a c u e n
abbrev None : Addr → Prop := fun _ => False
theorem Kept.free {H H1 : Hp} (a : Kept None H H1) {p : Addr} (h : H1 p = none) : H p = none := by
  cases e : H p with
  | none => rfl
  | some o =>
    obtain ⟨u, q⟩ := ko_some (a p o e (fun z => z))
    rw [h] at q
    cases q
theorem Kept.lst {D : Addr → Prop} {H H1 : Hp} (a : Kept D H H1) {p : Addr} {xs : List V} (h : H p = some (.lst xs)) (n : ¬ D p) : H1 p = some (.lst xs) := a p _ h n
theorem Kept.tup {D : Addr → Prop} {H H1 : Hp} (a : Kept D H H1) {p : Addr} {xs : List V} (h : H p = some (.tup xs)) (n : ¬ D p) : H1 p = some (.tup xs) := a p _ h n
theorem Kept.dK {D : Addr → Prop} {H H1 : Hp} (a : Kept D H H1) {p : Addr} {kvs : List (Key × V)} (h : H p = some (.dK kvs)) (n : ¬ D p) : H1 p = some (.dK kvs) := a p _ h n
theorem Kept.frz {D : Addr → Prop} {H H1 : Hp} (a : Kept D H H1) {p : Addr} {o : Obj} {u : HO} (h : H p = some (.frz o u)) (n : ¬ D p) : H1 p = some (.frz o u) := a p _ h n
theorem Kept.tab {D : Addr → Prop} {H H1 : Hp} (a : Kept D H H1) {p : Addr} (h : GxR.TabG H p) (n : ¬ D p) : GxR.TabG H1 p := by
  obtain ⟨ps, e, z⟩ := h
  obtain ⟨qs, e2, z2⟩ := a p _ e n
  exact ⟨qs, e2, z2 z⟩
theorem Kept.sql {K : PySem.W.Frag} {D : Addr → Prop} {H H1 : Hp} (a : Kept D H H1) {p : Addr} {xs : List V} (h : SqL K H p xs) (n : ¬ D p) : SqL K H1 p xs := by
  rcases h with (h | ⟨o, h⟩) | h
  · exact .inl (.inl (a.lst h n))
  · exact .inl (.inr ⟨o, a.frz h n⟩)
  · exact .inr h
theorem Kept.of_tabbed {P : Addr} {H H1 : Hp} (t : GxR.TabG H P) (h : GxR.Tabbed P H H1) : Kept None H H1 := fun b o e _ => by
  by_cases hb : b = P
  · subst hb
    obtain ⟨ps, e1, z1⟩ := t
    obtain ⟨⟨qs, e2, z2⟩, _⟩ := h
    rw [e1] at e
    cases e
    exact ⟨qs, e2, fun _ => z2⟩
  · rw [h.2 b hb, e]
    exact ko_refl o
end K13

set_option Elab.async false
set_option linter.all false
set_option maxRecDepth 100000
set_option maxHeartbeats 2000000
namespace K13
open PySem PySem.Spec PyProof.Rows L2
/-! ### the draws -/
abbrev sBegin : Stmt := top 9
abbrev sMixed : Stmt := top 10
abbrev sNext : Stmt := top 11
theorem scBegin : FnScope ["script"] ["script"] (defScope sBegin) := ⟨rfl, rfl, rfl, by decide +kernel, rfl, by decide +kernel, by decide +kernel⟩
theorem scMixed : FnScope ["cell", "k", "number"] ["cell", "k"] (defScope sMixed) := ⟨rfl, rfl, rfl, by decide +kernel, rfl, by decide +kernel, by decide +kernel⟩
theorem scNext : FnScope ["draw", "many", "found", "cells", "cell"] ["draw", "many"] (defScope sNext) := ⟨rfl, rfl, rfl, by decide +kernel, rfl, by decide +kernel, by decide +kernel⟩
/-- the draw's pairs -/
def drK (c : Addr) (a l u : Int) : List (Key × V) := [(.inr "cells", .ref c), (.inr "at", .int a), (.inr "left", .int l), (.inr "used", .int u)]
theorem kn {x y : PySem.Str} (h : ¬ x = y) : ¬ (Sum.inr x : Key) = Sum.inr y := fun e => h (Sum.inr.inj e)
theorem n1 : ¬ (("cells" : PySem.Str) = "at") := by decide +kernel
theorem n2 : ¬ (("cells" : PySem.Str) = "left") := by decide +kernel
theorem n3 : ¬ (("cells" : PySem.Str) = "used") := by decide +kernel
theorem n4 : ¬ (("at" : PySem.Str) = "left") := by decide +kernel
theorem n5 : ¬ (("at" : PySem.Str) = "used") := by decide +kernel
theorem n6 : ¬ (("left" : PySem.Str) = "used") := by decide +kernel
theorem g_cells (c : Addr) (a l u : Int) : valV (drK c a l u) (Sum.inr "cells" : Key) = some (.ref c) := valV_pos rfl
theorem g_at (c : Addr) (a l u : Int) : valV (drK c a l u) (Sum.inr "at" : Key) = some (.int a) := (valV_neg (kn n1)).trans (valV_pos rfl)
theorem g_left (c : Addr) (a l u : Int) : valV (drK c a l u) (Sum.inr "left" : Key) = some (.int l) := (valV_neg (kn n2)).trans ((valV_neg (kn n4)).trans (valV_pos rfl))
theorem g_used (c : Addr) (a l u : Int) : valV (drK c a l u) (Sum.inr "used" : Key) = some (.int u) := (valV_neg (kn n3)).trans ((valV_neg (kn n5)).trans ((valV_neg (kn n6)).trans (valV_pos rfl)))
theorem p_at (c : Addr) (a l u z : Int) : putK (drK c a l u) (Sum.inr "at" : Key) (.int z) = drK c z l u := by
  unfold putK
  rw [if_pos (by rw [valV_any, g_at]; rfl)]
  unfold drK
  simp only [List.map_cons, List.map_nil, if_neg (kn n1), if_pos rfl, if_neg (kn (fun e => n4 e.symm)), if_neg (kn (fun e => n5 e.symm))]
  rfl
theorem p_left (c : Addr) (a l u z : Int) : putK (drK c a l u) (Sum.inr "left" : Key) (.int z) = drK c a z u := by
  unfold putK
  rw [if_pos (by rw [valV_any, g_left]; rfl)]
  unfold drK
  simp only [List.map_cons, List.map_nil, if_neg (kn n2), if_pos rfl, if_neg (kn n4), if_neg (kn (fun e => n6 e.symm))]
  rfl
theorem p_used (c : Addr) (a l u z : Int) : putK (drK c a l u) (Sum.inr "used" : Key) (.int z) = drK c a l z := by
  unfold putK
  rw [if_pos (by rw [valV_any, g_used]; rfl)]
  unfold drK
  simp only [List.map_cons, List.map_nil, if_neg (kn n3), if_pos rfl, if_neg (kn n5), if_neg (kn n6)]
  rfl
/-- a draw at d, its cells at c, at most n numbers drawn -/
structure Dr (H : Hp) (d c : Addr) (ns : List Int) (n : Nat) : Prop where
  at_ : ∃ a l u : Int, H d = some (.dK (drK c a l u)) ∧ 0 ≤ a ∧ a ≤ (n : Int) ∧ 0 ≤ l ∧ 0 ≤ u ∧ u ≤ (n : Int)
  cs : H c = some (.lst (ns.map V.int))
  ne : 1 ≤ ns.length ∧ ns.length ≤ 64
theorem Dr.dc {H : Hp} {d c : Addr} {ns : List Int} {n : Nat} (D : Dr H d c ns n) : c ≠ d := by
  obtain ⟨a, l, u, h, _⟩ := D.at_
  exact ne_of D.cs h (by intro z; cases z)
/-- only the draw may change -/
abbrev At (d : Addr) : Addr → Prop := fun b => b = d
theorem Dr.stay {H H1 : Hp} {d c : Addr} {ns : List Int} {n : Nat} (D : Dr H d c ns n) (k : Kept None H H1) : Dr H1 d c ns n := by
  obtain ⟨a, l, u, h, r⟩ := D.at_
  exact ⟨⟨a, l, u, k.dK h (fun z => z), r⟩, k.lst D.cs (fun z => z), D.ne⟩
theorem Dr.more {H : Hp} {d c : Addr} {ns : List Int} {n m : Nat} (D : Dr H d c ns n) (h : n ≤ m) : Dr H d c ns m := by
  obtain ⟨a, l, u, e, h1, h2, h3, h4, h5⟩ := D.at_
  exact ⟨⟨a, l, u, e, h1, by omega, h3, h4, by omega⟩, D.cs, D.ne⟩
theorem Dr.new {H : Hp} {d c p : Addr} {o : HO} {ns : List Int} {n : Nat} (D : Dr H d c ns n) (h : H p = none) : Dr (upd H p o) d c ns n := D.stay (Kept.refl.new h)
/-- a new address is new for what stood ahead, too -/
theorem At.free {H H1 : Hp} {d c : Addr} {ns : List Int} {n : Nat} (k : Kept (At d) H H1) (D : Dr H1 d c ns n) {p : Addr} (h : H1 p = none) : H p = none := by
  cases e : H p with
  | none => rfl
  | some o =>
    have hp : ¬ p = d := fun z => by
      obtain ⟨a, l, u, q, _⟩ := D.at_
      rw [z, q] at h
      cases h
    obtain ⟨u, q⟩ := ko_some (k p o e hp)
    rw [h] at q
    cases q
def spBegin (K : PySem.W.Frag) : Sp := fun vs H Q _ => ∃ (a : Addr) (ns : List Int), vs = [.ref a] ∧ SqL K H a (ns.map V.int) ∧ ns.length ≤ 63 ∧ ∀ d c H', H d = none → Kept None H H' → Dr H' d c (ns ++ [0]) 0 → Q (.ref d) H'
def spMixed : Sp := fun vs H Q _ => ∃ (x k : Int), vs = [.int x, .int k] ∧ 0 ≤ k ∧ k ≤ 1152921504606846976 ∧ ∀ r : Int, 0 ≤ r → Q (.int r) H
def spNext : Sp := fun vs H Q _ => ∃ (d c : Addr) (ns : List Int) (n : Nat) (m : Int), vs = [.ref d, .int m] ∧ Dr H d c ns n ∧ n ≤ 1000000000 ∧ 1 ≤ m ∧ m < 1073741824 ∧ ∀ (r : Int) H', 0 ≤ r → r < m → Kept (At d) H H' → Dr H' d c ns (n + 1) → Q (.int r) H'
section
variable {P : Program} {w : World} {K : PySem.W.Frag} {mg : PySem.Str → Option Value} {base : Heap} {f fM fN : Addr} {fd fdM fdN : FuncData}
theorem ok_begin (F : FnP K "_law_begin" sBegin f fd) : FnOk P w K mg base CX0 1 f fd ["script"] (spBegin K) := by
  refine F.ok (k := 0) scBegin (fun vs H Q E h => ?_) (fun cdv A outer s H vs Q E hr h => ?_)
  · obtain ⟨a, ns, rfl, _⟩ := h
    rfl
  · obtain ⟨a, ns, rfl, hS, hl, q⟩ := h
    refine ⟨_, PSs.nox (pss_one (ps_ret (pe_disp (pps_cons pe_str (pe_op op_catR (pv 0) (pe_lst (pa_cons pe_int pa_nil))) (pps_cons pe_str pe_int (pps_cons pe_str pe_int (pps_cons pe_str pe_int pps_nil)))) (by rfl) (by rfl) (fun z => by cases z) (by decide)))), ?_⟩
    refine fun d hd => ⟨.ref a, rfl, by show 1 ≤ sizeLine; decide, fun b hb => ?_⟩
    have k1 : Kept None H (upd H d (.dK [])) := Kept.refl.new hd
    have k2 : Kept None (upd H d (.dK [])) (upd (upd H d (.dK [])) b (.lst [.int 0])) := Kept.refl.new hb
    refine ⟨a, b, ns.map V.int, [.int 0], rfl, rfl, (k1.trans k2).sql hS (fun z => z), upd_same, ?_, fun c hc => ?_⟩
    · rw [List.length_map, sizeLine_eq]
      simp only [List.length_cons, List.length_nil]
      omega
    · have hdb : d ≠ b := fun e => by
        rw [← e, upd_same] at hb
        cases hb
      have hdc : d ≠ c := fun e => by
        rw [← e, upd_ne hdb, upd_same] at hc
        cases hc
      have k3 : Kept None (upd (upd H d (.dK [])) b (.lst [.int 0])) (upd (upd (upd H d (.dK [])) b (.lst [.int 0])) c (.lst (ns.map V.int ++ [.int 0]))) := Kept.refl.new hc
      refine ⟨by rw [upd_ne hdc, upd_ne hdb, upd_same], drK c 0 0 0, rfl, by show 4 ≤ 15; decide, ?_⟩
      have em : mergeK [] (drK c 0 0 0) = drK c 0 0 0 := by
        unfold mergeK drK
        simp [putK, kn n1, kn n2, kn n3, kn n4, kn n5, kn n6, n1, n2, n3, n4, n5, n6]
      rw [em]
      refine q d c _ hd ?_ ⟨⟨0, 0, 0, upd_same, by omega, by omega, by omega, by omega, by omega⟩, ?_, by rw [List.length_append]; simp only [List.length_cons, List.length_nil]; omega⟩
      · intro x o e n
        have hx : x ≠ d := ne_of_none e hd
        rw [upd_ne hx]
        exact ((k1.trans k2).trans k3) x o e n
      · rw [upd_ne (Ne.symm hdc), upd_same, List.map_append]
        rfl
theorem ok_mixed (F : FnP K "_law_mixed" sMixed f fd) : FnOk P w K mg base CX0 1 f fd ["cell", "k"] spMixed := by
  refine F.ok (k := 0) scMixed (fun vs H Q E h => ?_) (fun cdv A outer s H vs Q E hr h => ?_)
  · obtain ⟨x, k, rfl, _⟩ := h
    rfl
  · obtain ⟨x, k, rfl, h0, h1, q⟩ := h
    refine ⟨_, PSs.nox (pss_cons (ps_set (i := 2) scMixed.nd rfl (Or.inl rfl) (pe_op op_mod (pe_op op_add (pe_op op_add (pe_op op_add (pe_op op_mod (pv 0) pe_int) (pe_op op_mul (pe_op op_mul pe_int (pv 1)) (pv 1))) (pe_op op_mul pe_int (pv 1))) pe_int) pe_int))
      (pss_cons (ps_set (i := 2) scMixed.nd rfl (Or.inl rfl) (pe_op op_mod (pe_op op_mul (pe_op op_mod (pe_op op_mul (pv 2) (pv 2)) pe_int) (pv 2)) pe_int))
      (pss_one (ps_ret (pe_op op_fdiv (pe_op op_mod (pe_op op_mul (pv 2) (pe_op op_add pe_int (pe_op op_mul pe_int (pe_op op_mod (pv 1) pe_int)))) pe_int) pe_int))))), ?_⟩
    refine ⟨.int x, rfl, x, 1000000007, rfl, rfl, (by show (0 : Int) < 1000000007; decide), .int k, rfl, 7919, k, rfl, rfl, .inl ⟨by decide, by decide⟩, .int k, rfl, _, k, rfl, rfl, .inr ⟨by omega, by omega⟩, _, _, rfl, rfl, .int k, rfl, 31, k, rfl, rfl, .inl ⟨by decide, by decide⟩, _, _, rfl, rfl, _, _, rfl, rfl, _, _, rfl, rfl, (by show (0 : Int) < 2147483647; decide), ?_⟩
    dsimp only
    generalize hy : (x % 1000000007 + 7919 * k * k + 31 * k + 7) % 2147483647 = y
    have y0 : 0 ≤ y := by rw [← hy]; exact Int.emod_nonneg _ (by decide)
    have y1 : y < 2147483647 := by rw [← hy]; exact Int.emod_lt_of_pos _ (by decide)
    refine ⟨.int y, rfl, .int y, rfl, y, y, rfl, rfl, .inl ⟨by omega, by omega⟩, _, _, rfl, rfl, (by show (0 : Int) < 2147483647; decide), .int y, rfl, _, y, rfl, rfl, .inr ⟨by omega, by omega⟩, _, _, rfl, rfl, (by show (0 : Int) < 2147483629; decide), ?_⟩
    dsimp only
    generalize hz : (y * y % 2147483647 * y) % 2147483629 = z
    have z0 : 0 ≤ z := by rw [← hz]; exact Int.emod_nonneg _ (by decide)
    have z1 : z < 2147483629 := by rw [← hz]; exact Int.emod_lt_of_pos _ (by decide)
    refine ⟨.int z, rfl, .int k, rfl, k, 1000, rfl, rfl, (by show (0 : Int) < 1000; decide), 2, _, rfl, rfl, .inl ⟨by decide, by decide⟩, _, _, rfl, rfl, z, _, rfl, rfl, .inl ⟨by omega, by omega⟩, _, _, rfl, rfl, (by show (0 : Int) < 2147483647; decide), _, _, rfl, rfl, ⟨by show (0 : Int) < 7; decide, by show (7 : Int) < 1073741824; decide⟩, ?_⟩
    exact q _ (Int.ediv_nonneg (Int.emod_nonneg _ (by decide)) (by decide))
end
end K13

set_option Elab.async false
set_option linter.all false
set_option maxRecDepth 100000
set_option maxHeartbeats 2000000
namespace K13
open PySem PySem.Spec PyProof.Rows L2
section
variable {H : Hp} {d c : Addr} {a l u z : Int}
theorem gd_cells (h : H d = some (.dK (drK c a l u))) : DGet H d (.str "cells") (some (.ref c)) := by rw [← g_cells c a l u]; exact DGet.k (k := Sum.inr "cells") h
theorem gd_at (h : H d = some (.dK (drK c a l u))) : DGet H d (.str "at") (some (.int a)) := by rw [← g_at c a l u]; exact DGet.k (k := Sum.inr "at") h
theorem gd_left (h : H d = some (.dK (drK c a l u))) : DGet H d (.str "left") (some (.int l)) := by rw [← g_left c a l u]; exact DGet.k (k := Sum.inr "left") h
theorem gd_used (h : H d = some (.dK (drK c a l u))) : DGet H d (.str "used") (some (.int u)) := by rw [← g_used c a l u]; exact DGet.k (k := Sum.inr "used") h
theorem four : (drK c a l u).length < sizeLine := by show 4 < sizeLine; decide
theorem pd_at (h : H d = some (.dK (drK c a l u))) : DPut H d (.str "at") (.int z) (upd H d (.dK (drK c z l u))) := by rw [← p_at c a l u z]; exact DPut.k (k := Sum.inr "at") h four
theorem pd_left (h : H d = some (.dK (drK c a l u))) : DPut H d (.str "left") (.int z) (upd H d (.dK (drK c a z u))) := by rw [← p_left c a l u z]; exact DPut.k (k := Sum.inr "left") h four
theorem pd_used (h : H d = some (.dK (drK c a l u))) : DPut H d (.str "used") (.int z) (upd H d (.dK (drK c a l z))) := by rw [← p_used c a l u z]; exact DPut.k (k := Sum.inr "used") h four
end
section
variable {P : Program} {w : World} {K : PySem.W.Frag} {mg : PySem.Str → Option Value} {base : Heap} {f fM fN : Addr} {fd fdM fdN : FuncData}
theorem ok_next (F : FnP K "_law_next" sNext f fd) (GM : FnOk P w K mg base CX0 1 fM fdM ["cell", "k"] spMixed) (bM : Binds K fdM ["cell", "k"] []) (kM : PySem.W.keepIn K (.ref fM) = true) (gM : mg "_law_mixed" = some (.ref fM)) (m1 : mg "len" = none) :
    FnOk P w K mg base CX0 2 f fd ["draw", "many"] spNext := by
  refine F.ok (k := 1) scNext (fun vs H Q E h => ?_) (fun cdv A outer s H vs Q E hr h => ?_)
  · obtain ⟨d, c, ns, n, m, rfl, _⟩ := h
    rfl
  · obtain ⟨d, c, ns, n, m, rfl, D, hn, m0, m1', q⟩ := h
    have hu := hu_of hr
    refine ⟨_, PSs.nox (pss_cons (ps_if (pt_cmpR op_gt (pe_dget hu (pv 0) pe_str (fun _ _ => rfl)) pe_int (nomark _))
        (pss_cons (ps_set (i := 2) scNext.nd rfl (Or.inl rfl) (pe_op op_mod (pe_dget hu (pv 0) pe_str (fun _ _ => rfl)) (pv 1)))
        (pss_cons (ps_dput hu (pv 0) pe_str (pe_op op_fdiv (pe_dget hu (pv 0) pe_str (fun _ _ => rfl)) (pv 1)) rfl)
        (pss_one (ps_ret (pv 2))))) pss_nil)
      (pss_cons (ps_set (i := 3) scNext.nd rfl (Or.inl rfl) (pe_dget hu (pv 0) pe_str (fun _ _ => rfl)))
      (pss_cons (ps_set (i := 4) scNext.nd rfl (Or.inl rfl) (pe_ix ix_list (pv 3) (pe_op op_mod (pe_dget hu (pv 0) pe_str (fun _ _ => rfl)) (pe_callB call_len_seq (by rfl) m1 PySem.boot_len (pa_cons (pv 3) pa_nil))) (fun _ _ => rfl)))
      (pss_cons (ps_dput hu (pv 0) pe_str (pe_op op_add (pe_dget hu (pv 0) pe_str (fun _ _ => rfl)) pe_int) rfl)
      (pss_cons (ps_if (PW.pt (pw_and (pt_cmpR op_ge (pv 4) (pe_op op_pow pe_int pe_int) (nomark _)) (pw_and1 (pt_cmpR op_le (pe_dget hu (pv 0) pe_str (fun _ _ => rfl)) (pe_callB call_len_seq (by rfl) m1 PySem.boot_len (pa_cons (pv 3) pa_nil)) (nomark _)))))
        (pss_cons (ps_dput hu (pv 0) pe_str (pe_op op_fdiv (pv 4) (pv 1)) rfl) (pss_one (ps_ret (pe_op op_mod (pv 4) (pv 1))))) pss_nil)
      (pss_cons (ps_dput hu (pv 0) pe_str (pe_op op_add (pe_dget hu (pv 0) pe_str (fun _ _ => rfl)) pe_int) rfl)
      (pss_one (ps_ret (pe_op op_mod (pe_call GM hr (by rfl) gM kM bM .nil pass0 (pa_cons (by exact (pe_call GM hr (by rfl) gM kM bM .nil pass0 (pa_cons (pv 4) (pa_cons (pe_dget hu (pv 0) pe_str (fun _ _ => rfl)) pa_nil)))) (pa_cons (pe_dget hu (pv 0) pe_str (fun _ _ => rfl)) pa_nil))) (pv 1)))))))))), ?_⟩
    obtain ⟨a, l, u, hd, a0, a1, l0, u0, u1⟩ := D.at_
    have dc := D.dc
    refine ⟨.ref d, rfl, d, .int l, rfl, gd_left hd, l, 0, rfl, rfl, _, rfl, ite2 (fun hl => ?_) (fun hl => ?_)⟩
    · have hl' : 0 < l := of_decide_eq_true hl
      refine ⟨.ref d, rfl, d, .int l, rfl, gd_left hd, .int m, rfl, l, m, rfl, rfl, (by show 0 < m; omega), ?_⟩
      refine ⟨.ref d, rfl, d, .int l, rfl, gd_left hd, .int m, rfl, l, m, rfl, rfl, ⟨by omega, by omega⟩, .ref d, rfl, d, _, rfl, pd_left hd, ?_⟩
      refine ⟨.int (l % m), rfl, ?_⟩
      refine q (l % m) _ (Int.emod_nonneg _ (by omega)) (Int.emod_lt_of_pos _ (by omega)) (Kept.refl.upd rfl) ⟨⟨a, l / m, u, upd_same, a0, by omega, Int.ediv_nonneg l0 (by omega), u0, by omega⟩, by rw [upd_ne dc]; exact D.cs, D.ne⟩
    · have hL : (ns.map V.int).length = ns.length := List.length_map ..
      obtain ⟨h1, h64⟩ := D.ne
      refine ⟨.ref d, rfl, d, .ref c, rfl, gd_cells hd, ?_⟩
      have j0 : 0 ≤ a % (ns.length : Int) := Int.emod_nonneg _ (by omega)
      have j1 : a % (ns.length : Int) < (ns.length : Int) := Int.emod_lt_of_pos _ (by omega)
      obtain ⟨j, hj⟩ : ∃ j : Nat, a % (ns.length : Int) = (j : Int) := ⟨(a % (ns.length : Int)).toNat, by omega⟩
      have hjl : j < ns.length := by omega
      have hat : atI (ns.map V.int) (a % (((ns.map V.int).length : Nat) : Int)) = some (.int ns[j]) := by
        rw [hL, hj]
        exact atI_nat (j := j) (by rw [List.getElem?_map, List.getElem?_eq_getElem hjl]; rfl)
      refine ⟨.ref c, rfl, .ref d, rfl, d, .int a, rfl, gd_at hd, .ref c, rfl, c, ns.map V.int, rfl, .inl (.inl (.inl D.cs)), a, _, rfl, rfl, (by rw [hL]; omega), c, ns.map V.int, _, .int ns[j], rfl, rfl, .inl (.inl D.cs), hat, ?_⟩
      refine ⟨.ref d, rfl, d, .int a, rfl, gd_at hd, a, 1, rfl, rfl, .ref d, rfl, d, _, rfl, pd_at hd, ?_⟩
      have hd1 : upd H d (.dK (drK c (a + 1) l u)) d = some (.dK (drK c (a + 1) l u)) := upd_same
      have hc1 : upd H d (.dK (drK c (a + 1) l u)) c = some (.lst (ns.map V.int)) := by rw [upd_ne dc]; exact D.cs
      have kk1 : Kept (At d) H (upd H d (.dK (drK c (a + 1) l u))) := Kept.refl.upd rfl
      generalize upd H d (.dK (drK c (a + 1) l u)) = H1 at hd1 hc1 kk1 ⊢
      -- the last way
      have last : tSeq (sDPut (tVar 0) (tC (.str "used")) (tOp (rI0 fun i j => .int (i + j)) (tDGet (tVar 0) (tC (.str "used"))) (tC (.int 1)))) (tRet (tOp (rI (fun _ j => 0 < j) fun i j => .int (i % j)) (tCall spMixed [] E0 (tCons (tCall spMixed [] E0 (tCons (tVar 4) (tCons (tDGet (tVar 0) (tC (.str "at"))) tNil))) (tCons (tDGet (tVar 0) (tC (.str "used"))) tNil))) (tVar 1)))
          { nx := fun _ H' => Q .non H', rt := Q } [some (.ref d), some (.int m), none, some (.ref c), some (.int ns[j])] H1 := by
        refine ⟨.ref d, rfl, d, .int u, rfl, gd_used hd1, u, 1, rfl, rfl, .ref d, rfl, d, _, rfl, pd_used hd1, ?_⟩
        have hd2 : upd H1 d (.dK (drK c (a + 1) l (u + 1))) d = some (.dK (drK c (a + 1) l (u + 1))) := upd_same
        have hc2 : upd H1 d (.dK (drK c (a + 1) l (u + 1))) c = some (.lst (ns.map V.int)) := by rw [upd_ne dc]; exact hc1
        have kk2 : Kept (At d) H (upd H1 d (.dK (drK c (a + 1) l (u + 1)))) := kk1.upd rfl
        generalize upd H1 d (.dK (drK c (a + 1) l (u + 1))) = H2 at hd2 hc2 kk2 ⊢
        refine ⟨.int ns[j], rfl, .ref d, rfl, d, .int (a + 1), rfl, gd_at hd2, ns[j], a + 1, rfl, by omega, by omega, fun r1 hr1 => ?_⟩
        refine ⟨.ref d, rfl, d, .int (u + 1), rfl, gd_used hd2, r1, u + 1, rfl, by omega, by omega, fun r2 hr2 => ?_⟩
        refine ⟨.int m, rfl, r2, m, rfl, rfl, (by show 0 < m; omega), ?_⟩
        exact q (r2 % m) H2 (Int.emod_nonneg _ (by omega)) (Int.emod_lt_of_pos _ (by omega)) kk2 ⟨⟨a + 1, l, u + 1, hd2, by omega, by omega, l0, by omega, by omega⟩, hc2, D.ne⟩
      refine ⟨.int ns[j], rfl, 10, 18, rfl, rfl, ⟨by decide, by decide, by decide⟩, ns[j], _, rfl, rfl, _, rfl, ite2 (fun hge => ?_) (fun hge => ?_)⟩
      · refine ⟨.ref d, rfl, d, .int (a + 1), rfl, gd_at hd1, .ref c, rfl, c, ns.map V.int, rfl, .inl (.inl (.inl hc1)), a + 1, _, rfl, rfl, _, rfl, ite2 (fun hle => ?_) (fun hle => ?_)⟩
        · have hbig : (10 : Int) ^ (18 : Int).toNat ≤ ns[j] := of_decide_eq_true hge
          have hpos : (0 : Int) ≤ ns[j] := Int.le_trans (by decide) hbig
          refine ⟨.int ns[j], rfl, .int m, rfl, ns[j], m, rfl, rfl, ⟨by omega, by omega⟩, .ref d, rfl, d, _, rfl, pd_left hd1, ?_⟩
          refine ⟨.int ns[j], rfl, .int m, rfl, ns[j], m, rfl, rfl, (by show 0 < m; omega), ?_⟩
          exact q (ns[j] % m) _ (Int.emod_nonneg _ (by omega)) (Int.emod_lt_of_pos _ (by omega)) (kk1.upd rfl) ⟨⟨a + 1, ns[j] / m, u, upd_same, by omega, by omega, Int.ediv_nonneg hpos (by omega), u0, by omega⟩, by rw [upd_ne dc]; exact hc1, D.ne⟩
        · exact last
      · exact iteF last
end
end K13

set_option Elab.async false
set_option linter.all false
set_option maxRecDepth 100000
set_option maxHeartbeats 2000000
namespace K13
open PySem PySem.Spec PyProof.Rows L2
section
variable {X : Cx}
/-- repr(x), x a list or a tuple -/
def rRepr (K : PySem.W.Frag) : List V → Hp → VK → Prop := fun xs H Q => ∃ (a : Addr) (d : PyData), xs = [.ref a] ∧ Dp K H (.ref a) d ∧ d.showable = true ∧ d.hasDict = false ∧ d.depth ≤ 100 ∧ d.shown.length ≤ sizeLine ∧ Q (.str d.shown) H
theorem call_reprL (hg : X.A.guards = some []) {k : Nat} (hr : Room k X.A) : CallR X (.builtin "repr") (rRepr X.K) := by
  intro pins s σ H xs us Q I r h
  obtain ⟨a, d, rfl, hD, hs, hn, h1, hz, q⟩ := h
  cases r with
  | cons rx rr =>
    cases rr
    cases rx
    obtain ⟨as, R⟩ := Dp.reads I d _ _ hD rfl
    refine repr_of_reads' R hs (fun z => by rw [hn] at z; cases z) hg (by have := hr.un; omega) (fun _ _ z => z) (fun h' u tk kp => ?_) hz
    exact ⟨.str d.shown, H, I.kept (t' := tk) kp, ⟨_, rfl⟩, q⟩
end
end K13

set_option Elab.async false
set_option linter.all false
set_option maxRecDepth 100000
set_option maxHeartbeats 2000000
namespace K13
open PySem PySem.Spec PyProof.Rows L2
/-! ### defs whose promise wants that no text of a thing is under way (repr) -/
structure FnG (P : Program) (w : World) (K : PySem.W.Frag) (mg : PySem.Str → Option Value) (base : Heap) (k : Nat) (f : Addr) (fd : FuncData) (ps : List PySem.Str) (sp : Sp) : Prop where
  len : ∀ vs H Q E, sp vs H Q E → vs.length = ps.length
  go : ∀ (A : Around) (outer : List Env) (s : Shared) (H : Hp) (ar : Args) (us : List Value) (vs : List V) (Q : VK) (E : XK), A.guards = some [] → Room k A → Env0 P w K mg base A outer s H → BindsTo s fd ar (ps.zip us) → Vals vs us → sp vs H Q E →
    codeAny (model P w) A (.call (.ref f) ar) (CR CX0 outer P w H s Q E) s
/-- by the body -/
theorem fnG_of {P : Program} {w : World} {K : PySem.W.Frag} {mg : PySem.Str → Option Value} {base : Heap} {x : PySem.Str} {st : Stmt} {f : Addr} {fd : FuncData} {N ps : List PySem.Str} {k : Nat} {sp : Sp} (F : FnP K x st f fd) (S : FnScope N ps (defScope st))
    (len : ∀ vs H Q E, sp vs H Q E → vs.length = ps.length)
    (body : ∀ (cdv : Value) (A : Around) (outer : List Env) (s : Shared) (H : Hp) (vs : List V) (Q : VK) (E : XK), A.guards = some [] → Room k (A.deeper (envOfC x (defScope st) s.heap.objs.size f cdv)) → sp vs H Q E →
      ∃ t, PSs (cxOf CX0 P w K mg base N x (defScope st) f cdv A outer s H E) (defBody st) t ∧ t { nx := fun _ H' => Q .non H', rt := Q } (start N vs) H) : FnG P w K mg base (k + 1) f fd ps sp := by
  obtain ⟨oc, od, dV, kV, doc, pm, an, cdv, ct, osl, rfl, look, code, _, _⟩ := F.ex
  refine ⟨len, fun A outer s H ar us vs Q E gd room e0 bnd rel spq => ?_⟩
  have inK : K.In s.heap := e0.mod.kin.keeps fun b o z => (e0.bs b o z).1
  have kinds : ∀ y ∈ ps.zip us, (defScope st).names.lookup y.1 = some .local ∨ ((defScope st).names.lookup y.1 = some .cell ∧ ((cellsFrom (s.heap.objs.size + 1) (defScope st).names []).lookup y.1).isSome = true) := by
    rintro ⟨n, v⟩ hy
    rcases S.par n (List.of_mem_zip hy).1 with z | z
    · exact .inl z
    · exact .inr ⟨z, PySem.W.cellsFrom_some _ _ _ (.inl z)⟩
  refine codeAny_call_function room.depth (inK _ _ look) rfl S.co S.gen rfl (PySem.W.codeRec_of inK code) (bnd _ _ _ _ ?_)
  refine wpAny_newFunctionEnv_cells S.kind kinds fun env ee s1 entered => ?_
  subst ee
  refine ⟨(e0.mod.nolimit.keeps fun b o z => (e0.bs b o z).1).keeps entered.toInCall.keep, codeAny_func ?_⟩
  obtain ⟨t, ht, z0⟩ := body cdv A outer s H vs Q E gd (room.deeper _) spq
  refine wpAny_mono (ht.run [] s1 (start N vs) H _ (inv_start S room.hd e0 (len _ _ _ _ spq) rel entered) z0) (fun fl s' out => ?_) fun _ _ z => z
  match fl, out with
  | .ret u, ⟨v, _, H', J, rv, z⟩ => exact ⟨v, H', J.os, J.bare, J.base, J.hok, rv, z⟩
  | .next, ⟨_, H', J, z⟩ => exact ⟨.non, H', J.os, J.bare, J.base, J.hok, rfl, z⟩
  | .brk, ⟨_, _, _, z⟩ => exact z.elim
  | .cont, ⟨_, _, _, z⟩ => exact z.elim
section
variable {X : Cx} {k : Nat} {f : Addr} {fd : FuncData} {ps : List PySem.Str} {sp : Sp} {E : XK} {x : PySem.Str} {p pos : Pos} {e : Expr} {es : List Expr} {t : TA}
/-- f(e, ..) -/
theorem pe_callG (F : FnG X.prog X.w X.K X.mg X.base k f fd ps sp) (gd : X.A.guards = some []) (room : Room k X.A) (gl : Gl X x) (gm : X.mg x = some (.ref f)) (kp : PySem.W.keepIn X.K (.ref f) = true) (bi : Binds X.K fd ps []) (px : Passes CX0 X E)
    (ha : PA X (e :: es) t) (db : (x == ("__debug__" : PySem.Str)) = false := by decide) (st : starEach (e :: es) X.env = (false, eval e X.env) :: starEach es X.env := by rfl) (pl : (backTo pos (starEach es X.env)).any (·.1) = false := by rfl) :
    PE X (.Call (.Name x p) (e :: es) [] pos) (tCall sp [] E t) := by
  refine ⟨fun pins s σ H Q I h => wpAny_Call_Name_kw (ld_glob I gl gm ?_ db)⟩
  refine PySem.W.callWith_K (h₀ := X.base) I.ok.mod.kin kp (thn (ha.run pos pins s σ H _ I h) fun us s1 ⟨vs, H1, I1, rel, z⟩ => ⟨I1.kIn, ?_⟩) st pl
  have z : sp (vs ++ []) H1 Q E := z
  rw [List.append_nil] at z
  have n1 : us.length = ps.length := (rel.length.symm).trans (F.len _ _ _ _ z)
  have bnd := bi s1 us I1.kIn (by rw [List.append_nil]; exact n1)
  rw [List.append_nil] at bnd
  refine wpAny_call (codeAny_mono (F.go X.A X.stack s1 H1 ⟨us, []⟩ us vs Q E gd room I1.env0 bnd rel z) fun r s' out => ?_)
  match r, out with
  | .error er, out => exact px pins σ H1 s1 er s' I1 out
  | .ok (.ret u), out => exact I1.after out
  | .ok .next, out => exact out.elim
  | .ok .brk, out => exact out.elim
  | .ok .cont, out => exact out.elim
end
/-- the law's own call -/
theorem goG {P : Program} {w : World} {K : PySem.W.Frag} {mg mb : PySem.Str → Option Value} {k : Nat} {f a : Addr} {fd : FuncData} {x : PySem.Str} {sp : Sp} {s : Shared} {us : List Value} {ns : List Int}
    (inK : K.In s.heap) (nG : s.heap.Ns mainGlobals mg) (nB : s.heap.Ns builtinsNs mb) (isB : ∀ y : PySem.Str, y ≠ "__name__" → mb y = bootBuiltins y) (lim : s.heap.NoLimit) (gens : s.gens = #[])
    (scr : s.heap.get? a = some { cls := .type "list", data := .seq us.toArray }) (iv : IntsAre us ns) (few : ns.length ≤ sizeLine) (room : Room k callerA)
    (F : ∀ base : Heap, K.In base → base.Ns mainGlobals mg → FnG P w K mg base k f fd [x] sp) (bi : ∀ (s : Shared) (u : Value), BindsTo s fd ⟨[u], []⟩ [(x, u)])
    (spq : ∀ H : Hp, Only H → SqL K H a (ns.map V.int) → sp [.ref a] H (fun v _ => v = .bl true) fun _ _ _ => False) :
    codeAny (model P w) callerA (.call (.ref f) ⟨[.ref a], []⟩) (fun r s' => r = .ok (.ret (.bool true)) ∧ OldK s.heap s'.heap ∧ s'.os = s.os ∧ AllBare s'.gens) s := by
  have main : ∀ H : Hp, Only H → SqL K H a (ns.map V.int) → HOk P w H s.heap → (∀ b, H b ≠ none → b = a ∧ K.lookup a = none) →
      codeAny (model P w) callerA (.call (.ref f) ⟨[.ref a], []⟩) (fun r s' => r = .ok (.ret (.bool true)) ∧ OldK s.heap s'.heap ∧ s'.os = s.os ∧ AllBare s'.gens) s := fun H only seq ok just => by
    have isNone : ∀ {b : Addr}, (b = a → K.lookup a = none → False) → H b = none := fun {b} no => by
      cases z : H b with
      | none => rfl
      | some u => exact (no (just b (by rw [z]; exact fun q => nomatch q)).1 (just b (by rw [z]; exact fun q => nomatch q)).2).elim
    have dictN : ∀ {b : Addr} {m : PySem.Str → Option Value}, s.heap.Ns b m → (hidT s.heap H).Ns b m := fun {b m} ⟨o, es, ep, at_, dat, more⟩ =>
      ⟨o, es, ep, hidT_get at_ (isNone fun eb _ => by
        subst eb
        have z := congrArg Obj.data (Option.some.inj (scr.symm.trans at_))
        have z' : Data.seq us.toArray _ = Data.dict es ep := z.trans dat
        cases z'), dat, more⟩
    have inK' : K.In (hidT s.heap H) := fun b o at_ => hidT_get (inK b o at_) (isNone fun eb no => by
      subst eb
      rw [no] at at_
      cases at_)
    have env : Env0 P w K mg (hidT s.heap H) callerA [] s H := by
      obtain ⟨mc, l1, l2⟩ := lim
      exact ⟨rfl, ⟨inK', dictN nG, ⟨mb, dictN nB, isB⟩, ⟨mc, dictN l1, l2⟩⟩, fun _ _ z => of_hidT z, Nat.le_of_eq (hidT_size _ _), trivial, fun b hb => (nomatch (show b ∈ ([] : List Addr) from hb)), ok, .of_eq gens⟩
    refine codeAny_mono ((F _ inK' (dictN nG)).go callerA [] s H ⟨[.ref a], []⟩ [.ref a] [.ref a] _ _ rfl room env (bi s (.ref a)) (.cons rfl .nil) (spq H only seq)) fun r s' out => ?_
    match r, out with
    | .error er, out => exact False.elim out
    | .ok .next, out => exact False.elim out
    | .ok .brk, out => exact False.elim out
    | .ok .cont, out => exact False.elim out
    | .ok (.ret u), ⟨v, H', os, bare, un, ok', rv, ev⟩ =>
      have ev' : v = .bl true := ev
      subst ev'
      obtain rfl : u = Value.bool true := rv
      refine ⟨rfl, OldK.of_keep fun b o at_ => ?_, os, bare⟩
      cases z : H b with
      | none => exact un.keep b o at_ z (fun q => (nomatch (show b ∈ ([] : List Addr) from q))) (fun q => nomatch q)
      | some u =>
        rcases only b with z' | ⟨ob, xs, z'⟩
        · rw [z] at z'
          cases z'
        · have one := (ok b _ z').1
          have two := (ok' b _ (un.frzs b ob _ z')).1
          rw [at_] at one
          cases one
          exact two
  have rel := vals_ints iv
  cases look : K.lookup a with
  | some o =>
    have eo := Option.some.inj (scr.symm.trans (inK a o look))
    subst eo
    exact main (fun _ => none) (fun _ => .inl rfl) (.inr ⟨_, us.toArray, _, look, rfl, rfl, rfl, by rw [List.size_toArray, iv.length]; exact few, by simpa using rel⟩) (fun b u z => by
      have z' : (none : Option HO) = some u := z
      cases z') fun b z => (z rfl).elim
  | none =>
    have on : ∀ b u, (if b = a then some (HO.frz { cls := .type "list", data := .seq us.toArray } (.lst (ns.map V.int))) else none) = some u → b = a ∧ u = HO.frz { cls := .type "list", data := .seq us.toArray } (.lst (ns.map V.int)) := fun b u z => by
      by_cases eb : b = a
      · rw [if_pos eb] at z
        exact ⟨eb, (Option.some.inj z).symm⟩
      · rw [if_neg eb] at z
        cases z
    refine main (fun b => if b = a then some (.frz { cls := .type "list", data := .seq us.toArray } (.lst (ns.map V.int))) else none) (fun b => ?_) (.inl (.inr ⟨_, if_pos rfl⟩)) (fun b u z => ?_) (fun b z => ?_)
    · by_cases eb : b = a
      · exact .inr ⟨_, _, if_pos eb⟩
      · exact .inl (if_neg eb)
    · obtain ⟨eb, eu⟩ := on b u z
      subst eb eu
      exact ⟨scr, by rw [List.length_map]; exact few, us, _, rel, scr⟩
    · by_cases eb : b = a
      · exact ⟨eb, look⟩
      · exact (z (if_neg eb)).elim
/-- the end -/
theorem walkG {l : PySem.W.OpenLaw} {n k : Nat} {q : Program} {loose : List PySem.Str} {XP : (PySem.Str → Option Value) → Heap → Prop} {YP : World → Heap → Prop} {d : DefRec} {x : PySem.Str} (most : l.most = some n) (small : n ≤ sizeLine) (nodf : d.params.defaults = []) (room : Room k callerA)
    (F : ∀ (w : World) (mg : PySem.Str → Option Value) (f : Addr) (h : Heap), YP w h → h.Ns mainGlobals mg → mg d.name = some (.ref f) → ∃ (K : PySem.W.Frag) (fd : FuncData) (sp : Sp), K.In h ∧ (∀ (s : Shared) (u : Value), BindsTo s fd ⟨[u], []⟩ [(x, u)]) ∧
      (∀ base : Heap, K.In base → base.Ns mainGlobals mg → FnG l.prog w K mg base k f fd [x] sp) ∧ ∀ (H : Hp) (a : Addr) (ns : List Int), ns.length ≤ n → SqL K H a (ns.map V.int) → sp [.ref a] H (fun v _ => v = .bl true) fun _ _ _ => False) :
    PySem.W.WalkO q loose XP YP l.row.toRowW d [] (fun f vs => PySem.call f vs) := by
  refine Att.attach_call most nodf fun w s0 s1 mg mb f o pm cd doc a us ns G Y _ _ _ hmg scr iv few gens => ?_
  obtain ⟨K, fd, sp, inK, bi, hF, spq⟩ := F w mg f _ Y G.T.g hmg
  exact goG inK G.T.g G.T.b G.T.builtins G.T.nolimit gens scr iv (Nat.le_trans few small) room hF bi fun H _ seq => spq H a ns few seq
end K13

set_option Elab.async false
set_option linter.all false
set_option maxRecDepth 100000
set_option maxHeartbeats 4000000
namespace K13
open PySem
/-! ### the mathematics -/
theorem bA (a b : Nat) : Builtin.bitAnd (a : Int) (b : Int) = ((a &&& b : Nat) : Int) := by
  rw [PyProof.Rows.bitAnd_pp (Int.natCast_nonneg a) (Int.natCast_nonneg b), Int.toNat_natCast, Int.toNat_natCast]
theorem bO (a b : Nat) : Builtin.bitOr (a : Int) (b : Int) = ((a ||| b : Nat) : Int) := by
  rw [Bits.bitOr_pp (Int.natCast_nonneg a) (Int.natCast_nonneg b), Int.toNat_natCast, Int.toNat_natCast]
theorem bX (a b : Nat) : Builtin.bitXor (a : Int) (b : Int) = ((a ^^^ b : Nat) : Int) := by
  rw [Bits.bitXor_pp (Int.natCast_nonneg a) (Int.natCast_nonneg b), Int.toNat_natCast, Int.toNat_natCast]
section
open PySem.Spec PyProof.Rows L2
variable {X : Cx}
def rAndN : R2 := fun x y H Q => ∃ n m : Nat, x = .int (n : Int) ∧ y = .int (m : Int) ∧ Q (.int ((n &&& m : Nat) : Int)) H
def rOrN : R2 := fun x y H Q => ∃ n m : Nat, x = .int (n : Int) ∧ y = .int (m : Int) ∧ Q (.int ((n ||| m : Nat) : Int)) H
def rXorN : R2 := fun x y H Q => ∃ n m : Nat, x = .int (n : Int) ∧ y = .int (m : Int) ∧ Q (.int ((n ^^^ m : Nat) : Int)) H
def rShlN : R2 := fun x y H Q => ∃ n k : Nat, x = .int (n : Int) ∧ y = .int (k : Int) ∧ (n ≤ 1073741824 ∧ k ≤ 1000000) ∧ Q (.int ((n * 2 ^ k : Nat) : Int)) H
def rBit : R2 := fun x y H Q => ∃ k : Nat, x = .int 1 ∧ y = .int (k : Int) ∧ k ≤ 1000000 ∧ Q (.int ((2 ^ k : Nat) : Int)) H
def rShrN : R2 := fun x y H Q => ∃ n k : Nat, x = .int (n : Int) ∧ y = .int (k : Int) ∧ Q (.int ((n >>> k : Nat) : Int)) H
def rEqN : R2 := fun x y H Q => ∃ n m : Nat, x = .int (n : Int) ∧ y = .int (m : Int) ∧ Q (.bl (decide (n = m))) H
def rLtN : R2 := fun x y H Q => ∃ n m : Nat, x = .int (n : Int) ∧ y = .int (m : Int) ∧ Q (.bl (decide (n < m))) H
def rGtN : R2 := fun x y H Q => ∃ n m : Nat, x = .int (n : Int) ∧ y = .int (m : Int) ∧ Q (.bl (decide (m < n))) H
def rSubN : R2 := fun x y H Q => ∃ n m : Nat, x = .int (n : Int) ∧ y = .int (m : Int) ∧ m ≤ n ∧ Q (.int ((n - m : Nat) : Int)) H
def rAddN : R2 := fun x y H Q => ∃ n m : Nat, x = .int (n : Int) ∧ y = .int (m : Int) ∧ Q (.int ((n + m : Nat) : Int)) H
theorem n_sub : OpR X (binaryOp .Sub) rSubN := op_subN
theorem n_add : OpR X (binaryOp .Add) rAddN := op_addN
theorem n_and : OpR X (binaryOp .BitAnd) rAndN := by
  intro pins s σ H x y v u Q I rx ry h
  obtain ⟨n, m, rfl, rfl, q⟩ := h
  rw [← bA] at q
  exact op_and pins s σ H _ _ v u Q I rx ry ⟨_, _, rfl, rfl, q⟩
theorem n_or : OpR X (binaryOp .BitOr) rOrN := by
  intro pins s σ H x y v u Q I rx ry h
  obtain ⟨n, m, rfl, rfl, q⟩ := h
  rw [← bO] at q
  exact op_or pins s σ H _ _ v u Q I rx ry ⟨_, _, rfl, rfl, q⟩
theorem n_xor : OpR X (binaryOp .BitXor) rXorN := by
  intro pins s σ H x y v u Q I rx ry h
  obtain ⟨n, m, rfl, rfl, q⟩ := h
  rw [← bX] at q
  exact op_xor pins s σ H _ _ v u Q I rx ry ⟨_, _, rfl, rfl, q⟩
theorem n_shl : OpR X (binaryOp .LShift) rShlN := by
  intro pins s σ H x y v u Q I rx ry h
  obtain ⟨n, k, rfl, rfl, ⟨c1, c2⟩, q⟩ := h
  have e : ((n * 2 ^ k : Nat) : Int) = (n : Int) * 2 ^ ((k : Int)).toNat := by rw [Int.toNat_natCast]; simp
  rw [e] at q
  exact op_shl pins s σ H _ _ v u Q I rx ry ⟨_, _, rfl, rfl, ⟨Int.natCast_nonneg k, by omega, by omega⟩, q⟩
theorem n_bit : OpR X (binaryOp .LShift) rBit := by
  intro pins s σ H x y v u Q I rx ry h
  obtain ⟨k, rfl, rfl, c, q⟩ := h
  have e : ((2 ^ k : Nat) : Int) = (1 : Int) * 2 ^ ((k : Int)).toNat := by rw [Int.toNat_natCast]; simp
  rw [e] at q
  exact op_shl pins s σ H _ _ v u Q I rx ry ⟨_, _, rfl, rfl, ⟨Int.natCast_nonneg k, by omega, by decide⟩, q⟩
theorem n_shr : OpR X (binaryOp .RShift) rShrN := by
  intro pins s σ H x y v u Q I rx ry h
  obtain ⟨n, k, rfl, rfl, q⟩ := h
  have e : ((n >>> k : Nat) : Int) = (n : Int) / 2 ^ ((k : Int)).toNat := by rw [Int.toNat_natCast, Nat.shiftRight_eq_div_pow]; simp
  rw [e] at q
  exact op_shr pins s σ H _ _ v u Q I rx ry ⟨_, _, rfl, rfl, Int.natCast_nonneg k, q⟩
theorem n_eq : OpR X (compareOp .Eq) rEqN := by
  intro pins s σ H x y v u Q I rx ry h
  obtain ⟨n, m, rfl, rfl, q⟩ := h
  refine op_eq pins s σ H _ _ v u Q I rx ry ⟨rfl, ?_⟩
  rw [show decide (V.int (n : Int) = V.int (m : Int)) = decide (n = m) from decide_eq_decide.mpr ⟨fun z => by have := V.int.inj z; omega, fun z => by rw [z]⟩]
  exact q
theorem n_lt : OpR X (compareOp .Lt) rLtN := by
  intro pins s σ H x y v u Q I rx ry h
  obtain ⟨n, m, rfl, rfl, q⟩ := h
  refine op_lt pins s σ H _ _ v u Q I rx ry ⟨_, _, rfl, rfl, ?_⟩
  show Q (.bl (decide ((n : Int) < (m : Int)))) H
  rw [show decide ((n : Int) < (m : Int)) = decide (n < m) from decide_eq_decide.mpr (by omega)]
  exact q
theorem n_gt : OpR X (compareOp .Gt) rGtN := by
  intro pins s σ H x y v u Q I rx ry h
  obtain ⟨n, m, rfl, rfl, q⟩ := h
  refine op_gt pins s σ H _ _ v u Q I rx ry ⟨_, _, rfl, rfl, ?_⟩
  show Q (.bl (decide ((m : Int) < (n : Int)))) H
  rw [show decide ((m : Int) < (n : Int)) = decide (m < n) from decide_eq_decide.mpr (by omega)]
  exact q
end
end K13

set_option Elab.async false
set_option linter.all false
set_option maxRecDepth 100000
set_option maxHeartbeats 4000000
namespace K13
open PySem
/-- facts of a word so wide -/
structure Fc (w z o : Nat) : Prop where
  w1 : 1 ≤ w
  w2 : w ≤ 12
  hz : z < 2 ^ w
  ho : o < 2 ^ w
  no : z &&& o = 0
def freeB (z k : Nat) : Bool := (z >>> k) &&& 1 == 0
def free (w z : Nat) : List Nat := ((List.range w).filter (freeB z)).map (2 ^ ·)
def most (w : Nat) : Nat := 2 ^ w - 1
def great (w z : Nat) : Nat := most w ^^^ z
def first (w z o : Nat) : Nat × Nat := if great w z &&& (great w z - 1) = 0 then (z, great w z) else (z, o)
def fitB (z o x : Nat) : Bool := (x &&& z == 0) && (x &&& o == o)
def wordsOf (w z o : Nat) : List Nat := (List.range' 1 (most w)).filter (fitB z o)
def foldB (m : Nat) (l : List Nat) : Nat × Nat := l.foldl (fun p x => (p.1 &&& x, p.2 ||| x)) (m, 0)
def c1 (w z : Nat) : Bool := (decide (free w z = []) == decide (great w z = 0)) && (decide (great w z = 0) || (decide (great w z &&& (great w z - 1) = 0) == decide ((free w z).length = 1))) && (!decide ((free w z).length = 1) || decide (free w z = [great w z]))
def c2 (w z o : Nat) : Bool := !decide (z &&& o = 0) || decide (great w z = 0) || decide ((most w - (foldB (most w) (wordsOf w z o)).2, (foldB (most w) (wordsOf w z o)).1) = first w z o)
def ac1 : Bool := (List.range 13).all fun w => (List.range (2 ^ w)).all fun z => c1 w z
def ac2 : Bool := (List.range 7).all fun w => (List.range (2 ^ w)).all fun z => (List.range (2 ^ w)).all fun o => c2 w z o
theorem ac1_ok : ac1 = true := by decide +kernel
theorem ac2_ok : ac2 = true := by decide +kernel
theorem c1_ok {w z : Nat} (hw : w < 13) (hz : z < 2 ^ w) : c1 w z = true := by
  have h := List.all_eq_true.mp (show ((List.range 13).all fun w => (List.range (2 ^ w)).all fun z => c1 w z) = true from ac1_ok) w (List.mem_range.mpr hw)
  exact List.all_eq_true.mp h z (List.mem_range.mpr hz)
theorem c2_ok {w z o : Nat} (hw : w < 7) (hz : z < 2 ^ w) (ho : o < 2 ^ w) : c2 w z o = true := by
  have h := List.all_eq_true.mp (show ((List.range 7).all fun w => (List.range (2 ^ w)).all fun z => (List.range (2 ^ w)).all fun o => c2 w z o) = true from ac2_ok) w (List.mem_range.mpr hw)
  have h2 := List.all_eq_true.mp h z (List.mem_range.mpr hz)
  exact List.all_eq_true.mp h2 o (List.mem_range.mpr ho)
theorem free_nil {w z : Nat} (hw : w < 13) (hz : z < 2 ^ w) : free w z = [] ↔ great w z = 0 := by
  have h := c1_ok hw hz
  simp only [c1, Bool.and_eq_true] at h
  have h1 := eq_of_beq h.1.1
  exact decide_eq_decide.mp h1
theorem free_one {w z : Nat} (hw : w < 13) (hz : z < 2 ^ w) (hg : great w z ≠ 0) : (great w z &&& (great w z - 1) = 0) ↔ (free w z).length = 1 := by
  have h := c1_ok hw hz
  simp only [c1, Bool.and_eq_true, decide_eq_false hg, Bool.false_or] at h
  exact decide_eq_decide.mp (eq_of_beq h.1.2)
theorem free_at {w z : Nat} (hw : w < 13) (hz : z < 2 ^ w) (h1 : (free w z).length = 1) : free w z = [great w z] := by
  have h := c1_ok hw hz
  simp only [c1, Bool.and_eq_true, decide_eq_true h1, Bool.not_true, Bool.false_or] at h
  exact of_decide_eq_true h.2
theorem fold_first {w z o : Nat} (hw : w < 7) (hz : z < 2 ^ w) (ho : o < 2 ^ w) (no : z &&& o = 0) (hg : great w z ≠ 0) : (most w - (foldB (most w) (wordsOf w z o)).2, (foldB (most w) (wordsOf w z o)).1) = first w z o := by
  have h := c2_ok hw hz ho
  simp only [c2, decide_eq_true no, decide_eq_false hg, Bool.not_true, Bool.false_or] at h
  exact of_decide_eq_true h
end K13

set_option Elab.async false
set_option linter.all false
set_option maxRecDepth 100000
set_option maxHeartbeats 2000000
namespace K13
open PySem PySem.Spec PyProof.Rows L2
/-! ### the program's own defs -/
abbrev sIsWhole : Stmt := top 1
theorem scIsWhole : FnScope ["thing", "least", "most"] ["thing", "least", "most"] (defScope sIsWhole) := ⟨rfl, rfl, rfl, by decide +kernel, rfl, by decide +kernel, by decide +kernel⟩
abbrev sIsFacts : Stmt := top 3
theorem scIsFacts : FnScope ["wide", "thing", "zeros", "ones", "most"] ["wide", "thing"] (defScope sIsFacts) := ⟨rfl, rfl, rfl, by decide +kernel, rfl, by decide +kernel, by decide +kernel⟩
abbrev sLeastWord : Stmt := top 4
theorem scLeastWord : FnScope ["facts"] ["facts"] (defScope sLeastWord) := ⟨rfl, rfl, rfl, by decide +kernel, rfl, by decide +kernel, by decide +kernel⟩
abbrev sGreatestWord : Stmt := top 5
theorem scGreatestWord : FnScope ["wide", "facts"] ["wide", "facts"] (defScope sGreatestWord) := ⟨rfl, rfl, rfl, by decide +kernel, rfl, by decide +kernel, by decide +kernel⟩
abbrev sWaysOf : Stmt := top 6
theorem scWaysOf : FnScope ["wide", "facts"] ["wide", "facts"] (defScope sWaysOf) := ⟨rfl, rfl, rfl, by decide +kernel, rfl, by decide +kernel, by decide +kernel⟩
abbrev sFirstFacts : Stmt := top 7
theorem scFirstFacts : FnScope ["wide", "facts", "zeros", "ones", "left"] ["wide", "facts"] (defScope sFirstFacts) := ⟨rfl, rfl, rfl, by decide +kernel, rfl, by decide +kernel, by decide +kernel⟩
def wholeB (x : V) (lo hi : Int) : Bool := match x with
  | .int i => decide (lo ≤ i) && decide (i ≤ hi)
  | _ => false
def spWhole (K : PySem.W.Frag) : Sp := fun vs H Q _ => ∃ (x : V) (T : String) (lo hi : Int), vs = [x, .int lo, .int hi] ∧ TyB K H x T ∧ Q (.bl (wholeB x lo hi)) H
theorem tyb_int {K : PySem.W.Frag} {H : Hp} {x : V} {T : String} (t : TyB K H x T) : (T = "int" ∧ ∃ i, x = .int i) ∨ (T ≠ "int" ∧ ∀ lo hi, wholeB x lo hi = false) := by
  cases t with
  | int i => exact .inl ⟨rfl, i, rfl⟩
  | _ => exact .inr ⟨by decide, fun _ _ => rfl⟩
theorem pow_bound {w : Nat} (h : w ≤ 12) : (2 : Nat) ^ w ≤ 4096 := Nat.pow_le_pow_right (by decide) h
theorem pow_pos' {w : Nat} : 1 ≤ (2 : Nat) ^ w := Nat.one_le_two_pow
section
variable {P : Program} {w : World} {K : PySem.W.Frag} {mg : PySem.Str → Option Value} {base : Heap} {f : Addr} {fd : FuncData}
theorem ok_whole (F : FnP K "is_whole" sIsWhole f fd) (m_type : mg "type" = none) (m_int : mg "int" = none) : FnOk P w K mg base CX0 1 f fd ["thing", "least", "most"] (spWhole K) := by
  refine F.ok scIsWhole (fun vs H Q E h => ?_) (fun cdv A outer s H vs Q E hr h => ?_)
  · obtain ⟨x, T, lo, hi, rfl, _⟩ := h
    rfl
  · obtain ⟨x, T, lo, hi, rfl, hT, q⟩ := h
    refine ⟨_, PSs.nox (pss_one (ps_ret (pe_and (pe_cmpR op_isTyB (pe_callTy call_type1 (by rfl) m_type (by decide +kernel) (pa_cons (pv 0) pa_nil)) (pe_bltn (v := .ty "int") (by rfl) m_int (by decide +kernel) rfl) (nomark _)) (pe_one (pe_chain op_le op_le (pv 1) (pv 0) (pv 2)))))), ?_⟩
    refine ⟨x, rfl, x, T, rfl, hT, T, "int", rfl, rfl, _, rfl, ?_⟩
    rcases tyb_int hT with ⟨rfl, i, rfl⟩ | ⟨hn, hw⟩
    · rw [decide_eq_true rfl]
      refine iteT ⟨.int lo, rfl, .int i, rfl, lo, i, rfl, rfl, _, rfl, ?_⟩
      have q' : Q (.bl (decide (lo ≤ i) && decide (i ≤ hi))) H := q
      cases e : decide (lo ≤ i) with
      | true =>
        rw [e] at q'
        exact iteT ⟨.int hi, rfl, i, hi, rfl, rfl, q'⟩
      | false =>
        rw [e] at q'
        exact iteF q'
    · rw [decide_eq_false hn]
      rw [hw] at q
      exact iteF q
def zeroB (u v : V) : Bool := match u, v with
  | .int a, .int b => decide (Builtin.bitAnd a b = 0)
  | _, _ => false
def pairB (w : Nat) (u v : V) : Bool := wholeB u 0 (most w) && (wholeB v 0 (most w) && zeroB u v)
/-- what is_facts is to tell of a thing -/
inductive FB (K : PySem.W.Frag) (H : Hp) (w : Nat) : V → Bool → Prop
  | ty {x : V} {T : String} : TyB K H x T → T ≠ "tuple" → FB K H w x false
  | len {p : Addr} {xs : List V} : SqT K H p xs → xs.length ≠ 2 → FB K H w (.ref p) false
  | pair {p : Addr} {u v : V} {T U : String} : SqT K H p [u, v] → TyB K H u T → TyB K H v U → FB K H w (.ref p) (pairB w u v)
def spIsFacts (K : PySem.W.Frag) : Sp := fun vs H Q _ => ∃ (v : Nat) (x : V) (b : Bool), vs = [.int (v : Int), x] ∧ v ≤ 12 ∧ FB K H v x b ∧ Q (.bl b) H
theorem ok_isfacts {fW : Addr} {fdW : FuncData} (F : FnP K "is_facts" sIsFacts f fd) (GIsWhole : FnOk P w K mg base CX0 1 fW fdW ["thing", "least", "most"] (spWhole K)) (bIsWhole : Binds K fdW ["thing", "least", "most"] []) (kIsWhole : PySem.W.keepIn K (.ref fW) = true) (gIsWhole : mg "is_whole" = some (.ref fW))
    (m_type : mg "type" = none) (m_tuple : mg "tuple" = none) (m_len : mg "len" = none) : FnOk P w K mg base CX0 2 f fd ["wide", "thing"] (spIsFacts K) := by
  refine F.ok (k := 1) scIsFacts (fun vs H Q E h => ?_) (fun cdv A outer s H vs Q E hr h => ?_)
  · obtain ⟨v, x, b, rfl, _⟩ := h
    rfl
  · obtain ⟨v, x, b, rfl, w2, hF, q⟩ := h
    refine ⟨_, PSs.nox (pss_cons (ps_if (PW.pt (pw_or (pt_cmpR op_notTyB (pe_callTy call_type1 (by rfl) m_type (by decide +kernel) (pa_cons (pv 1) pa_nil)) (pe_bltn (v := .ty "tuple") (by rfl) m_tuple (by decide +kernel) rfl) (nomark _)) (pw_or1 (pt_cmpR op_ne (pe_callB call_len_seq (by rfl) m_len PySem.boot_len (pa_cons (pv 1) pa_nil)) pe_int (nomark _)))))
        (pss_one (ps_ret pe_bl)) pss_nil)
      (pss_cons (ps_asg (pv 1) (pg_tup rfl (pgs_cons (pg_name (i := 2) scIsFacts.nd rfl (Or.inl rfl)) (pgs_cons (pg_name (i := 3) scIsFacts.nd rfl (Or.inl rfl)) pgs_nil))))
      (pss_cons (ps_set (i := 4) scIsFacts.nd rfl (Or.inl rfl) (pe_op n_sub (pe_op n_bit pe_int (pv 0)) pe_int))
      (pss_one (ps_ret (pe_and (pe_call GIsWhole hr (by rfl) gIsWhole kIsWhole bIsWhole .nil pass0 (pa_cons (pv 2) (pa_cons pe_int (pa_cons (pv 4) pa_nil)))) (pe_and (pe_call GIsWhole hr (by rfl) gIsWhole kIsWhole bIsWhole .nil pass0 (pa_cons (pv 3) (pa_cons pe_int (pa_cons (pv 4) pa_nil)))) (pe_one (pe_cmpR op_eq (pe_op op_and (pv 2) (pv 3)) pe_int (nomark _)))))))))), ?_⟩
    cases hF with
    | @ty _ T ht hn =>
      refine ⟨x, rfl, x, T, rfl, ht, T, "tuple", rfl, rfl, _, rfl, ?_⟩
      rw [decide_eq_false hn]
      exact iteT q
    | @len p xs hs hn =>
      refine ⟨.ref p, rfl, .ref p, "tuple", rfl, .tup hs, "tuple", "tuple", rfl, rfl, _, rfl, ?_⟩
      rw [decide_eq_true rfl]
      refine iteF ⟨.ref p, rfl, p, xs, rfl, .inr hs, rfl, _, rfl, ?_⟩
      rw [show (!decide (V.int (xs.length : Int) = V.int 2)) = true by rw [decide_eq_false (fun z => hn (by have := V.int.inj z; omega))]; rfl]
      exact iteT q
    | @pair p u v' T U hs hu' hv' =>
      refine ⟨.ref p, rfl, .ref p, "tuple", rfl, .tup hs, "tuple", "tuple", rfl, rfl, _, rfl, ?_⟩
      rw [decide_eq_true rfl]
      refine iteF ⟨.ref p, rfl, p, [u, v'], rfl, .inr hs, rfl, _, rfl, ?_⟩
      refine iteF ?_
      refine ⟨.ref p, rfl, p, [u, v'], rfl, hs, rfl, u, [v'], rfl, v', [], rfl, rfl, ?_⟩
      refine ⟨.int v, rfl, v, rfl, rfl, by omega, 2 ^ v, 1, rfl, rfl, pow_pos', ?_⟩
      refine ⟨u, rfl, .int (most v), rfl, u, T, 0, most v, rfl, hu', _, rfl, ?_⟩
      have q' : Q (.bl (wholeB u 0 (most v) && (wholeB v' 0 (most v) && zeroB u v'))) H := q
      cases e1 : wholeB u 0 (most v) with
      | false =>
        rw [e1] at q'
        exact iteF q'
      | true =>
        rw [e1] at q'
        refine iteT ⟨v', rfl, .int (most v), rfl, v', U, 0, most v, rfl, hv', _, rfl, ?_⟩
        cases e2 : wholeB v' 0 (most v) with
        | false =>
          rw [e2] at q'
          exact iteF q'
        | true =>
          rw [e2] at q'
          refine iteT ?_
          cases u with
          | int a =>
            cases v' with
            | int b => 
              refine ⟨.int a, rfl, .int b, rfl, a, b, rfl, rfl, rfl, ?_⟩
              rw [show decide (V.int (Builtin.bitAnd a b) = V.int 0) = decide (Builtin.bitAnd a b = 0) by rw [dec_int]; exact (Bool.beq_eq_decide_eq _ _)]
              exact q'
            | _ => cases e2
          | _ => cases e1
end
end K13

set_option Elab.async false
set_option linter.all false
set_option maxRecDepth 100000
set_option maxHeartbeats 2000000
namespace K13
open PySem PySem.Spec PyProof.Rows L2
def two (z o : Nat) : List V := [.int (z : Int), .int (o : Int)]
def spLeast (K : PySem.W.Frag) : Sp := fun vs H Q _ => ∃ (p : Addr) (z o : Nat), vs = [.ref p] ∧ SqT K H p (two z o) ∧ Q (.int (o : Int)) H
def spGreat (K : PySem.W.Frag) : Sp := fun vs H Q _ => ∃ (p : Addr) (v z o : Nat), vs = [.int (v : Int), .ref p] ∧ SqT K H p (two z o) ∧ v ≤ 12 ∧ Q (.int (great v z : Int)) H
def spWays (K : PySem.W.Frag) : Sp := fun vs H Q _ => ∃ (p : Addr) (v z o : Nat), vs = [.int (v : Int), .ref p] ∧ SqT K H p (two z o) ∧ v ≤ 12 ∧ ∀ t, H t = none → Q (.ref t) (upd H t (.tup [.bl (decide (0 < great v z)), .bl (decide (o = 0))]))
def spFirst (K : PySem.W.Frag) : Sp := fun vs H Q _ => ∃ (p : Addr) (v z o : Nat), vs = [.int (v : Int), .ref p] ∧ SqT K H p (two z o) ∧ v ≤ 12 ∧ 0 < great v z ∧ ∀ t, H t = none → Q (.ref t) (upd H t (.tup (two (first v z o).1 (first v z o).2)))
section
variable {P : Program} {w : World} {K : PySem.W.Frag} {mg : PySem.Str → Option Value} {base : Heap} {f fG fL : Addr} {fd fdG fdL : FuncData}
theorem ok_least (F : FnP K "least_word" sLeastWord f fd) : FnOk P w K mg base CX0 1 f fd ["facts"] (spLeast K) := by
  refine F.ok (k := 0) scLeastWord (fun vs H Q E h => ?_) (fun cdv A outer s H vs Q E hr h => ?_)
  · obtain ⟨p, z, o, rfl, _⟩ := h
    rfl
  · obtain ⟨p, z, o, rfl, hs, q⟩ := h
    refine ⟨_, PSs.nox (pss_one (ps_ret (pe_ix ix_tup (pv 0) pe_int (fun _ _ => rfl)))), ?_⟩
    exact ⟨.ref p, rfl, p, two z o, 1, .int o, rfl, rfl, hs, atI_nat (j := 1) rfl, q⟩
theorem ok_great (F : FnP K "greatest_word" sGreatestWord f fd) : FnOk P w K mg base CX0 1 f fd ["wide", "facts"] (spGreat K) := by
  refine F.ok (k := 0) scGreatestWord (fun vs H Q E h => ?_) (fun cdv A outer s H vs Q E hr h => ?_)
  · obtain ⟨p, v, z, o, rfl, _⟩ := h
    rfl
  · obtain ⟨p, v, z, o, rfl, hs, w2, q⟩ := h
    refine ⟨_, PSs.nox (pss_one (ps_ret (pe_op n_xor (pe_op n_sub (pe_op n_bit pe_int (pv 0)) pe_int) (pe_ix ix_tup (pv 1) pe_int (fun _ _ => rfl))))), ?_⟩
    exact ⟨.int v, rfl, v, rfl, rfl, by omega, 2 ^ v, 1, rfl, rfl, pow_pos', .ref p, rfl, p, two z o, 0, .int z, rfl, rfl, hs, atI_nat (j := 0) rfl, most v, z, rfl, rfl, q⟩
theorem ok_ways (F : FnP K "ways_of" sWaysOf f fd) (GG : FnOk P w K mg base CX0 1 fG fdG ["wide", "facts"] (spGreat K)) (bG : Binds K fdG ["wide", "facts"] []) (kG : PySem.W.keepIn K (.ref fG) = true) (gG : mg "greatest_word" = some (.ref fG))
    (GL : FnOk P w K mg base CX0 1 fL fdL ["facts"] (spLeast K)) (bL : Binds K fdL ["facts"] []) (kL : PySem.W.keepIn K (.ref fL) = true) (gL : mg "least_word" = some (.ref fL)) : FnOk P w K mg base CX0 2 f fd ["wide", "facts"] (spWays K) := by
  refine F.ok (k := 1) scWaysOf (fun vs H Q E h => ?_) (fun cdv A outer s H vs Q E hr h => ?_)
  · obtain ⟨p, v, z, o, rfl, _⟩ := h
    rfl
  · obtain ⟨p, v, z, o, rfl, hs, w2, q⟩ := h
    refine ⟨_, PSs.nox (pss_one (ps_ret (pe_tup (pa_cons (pe_cmpR n_gt (pe_call GG hr (by rfl) gG kG bG .nil pass0 (pa_cons (pv 0) (pa_cons (pv 1) pa_nil))) pe_int (nomark _)) (pa_cons (pe_cmpR n_eq (pe_call GL hr (by rfl) gL kL bL .nil pass0 (pa_cons (pv 1) pa_nil)) pe_int (nomark _)) pa_nil))))), ?_⟩
    exact ⟨.int v, rfl, .ref p, rfl, p, v, z, o, rfl, hs, w2, great v z, 0, rfl, rfl, .ref p, rfl, p, z, o, rfl, hs, o, 0, rfl, rfl, by show 2 ≤ sizeLine; decide, fun t ht => q t ht⟩
theorem ok_first (F : FnP K "first_facts" sFirstFacts f fd) (GG : FnOk P w K mg base CX0 1 fG fdG ["wide", "facts"] (spGreat K)) (bG : Binds K fdG ["wide", "facts"] []) (kG : PySem.W.keepIn K (.ref fG) = true) (gG : mg "greatest_word" = some (.ref fG)) : FnOk P w K mg base CX0 2 f fd ["wide", "facts"] (spFirst K) := by
  refine F.ok (k := 1) scFirstFacts (fun vs H Q E h => ?_) (fun cdv A outer s H vs Q E hr h => ?_)
  · obtain ⟨p, v, z, o, rfl, _⟩ := h
    rfl
  · obtain ⟨p, v, z, o, rfl, hs, w2, gp, q⟩ := h
    refine ⟨_, PSs.nox (pss_cons (ps_asg (pv 1) (pg_tup rfl (pgs_cons (pg_name (i := 2) scFirstFacts.nd rfl (Or.inl rfl)) (pgs_cons (pg_name (i := 3) scFirstFacts.nd rfl (Or.inl rfl)) pgs_nil))))
      (pss_cons (ps_set (i := 4) scFirstFacts.nd rfl (Or.inl rfl) (pe_call GG hr (by rfl) gG kG bG .nil pass0 (pa_cons (pv 0) (pa_cons (pv 1) pa_nil))))
      (pss_one (ps_ret (pe_ifExp (pt_cmpR n_eq (pe_op n_and (pv 4) (pe_op n_sub (pv 4) pe_int)) pe_int (nomark _)) (pe_tup (pa_cons (pv 2) (pa_cons (pv 4) pa_nil))) (pe_tup (pa_cons (pv 2) (pa_cons (pv 3) pa_nil)))))))), ?_⟩
    refine ⟨.ref p, rfl, p, two z o, rfl, hs, rfl, .int z, [.int o], rfl, .int o, [], rfl, rfl, ?_⟩
    refine ⟨.int v, rfl, .ref p, rfl, p, v, z, o, rfl, hs, w2, ?_⟩
    refine ⟨.int (great v z), rfl, .int (great v z), rfl, great v z, 1, rfl, rfl, gp, great v z, great v z - 1, rfl, rfl, _, 0, rfl, rfl, _, rfl, ite2 (fun hc => ?_) (fun hc => ?_)⟩
    · have hc := of_decide_eq_true hc
      refine ⟨_, rfl, _, rfl, by show 2 ≤ sizeLine; decide, fun t ht => ?_⟩
      have e := q t ht
      unfold first at e
      rw [if_pos hc] at e
      exact e
    · have hc : ¬ _ := fun z => hc (decide_eq_true z)
      refine ⟨_, rfl, _, rfl, by show 2 ≤ sizeLine; decide, fun t ht => ?_⟩
      have e := q t ht
      unfold first at e
      rw [if_neg hc] at e
      exact e
end
end K13

set_option Elab.async false
set_option linter.all false
set_option maxRecDepth 100000
set_option maxHeartbeats 2000000
namespace K13
open PySem PySem.Spec PyProof.Rows L2
/-! ### facts drawn -/
theorem fc_of {w m x : Nat} (w1 : 1 ≤ w) (w2 : w ≤ 12) (hm : m < 2 ^ w) (hx : x < 2 ^ w) : Fc w (m &&& (most w - x)) (m &&& x) := by
  refine ⟨w1, w2, Nat.lt_of_le_of_lt Nat.and_le_left hm, Nat.lt_of_le_of_lt Nat.and_le_left hm, ?_⟩
  apply Nat.eq_of_testBit_eq
  intro i
  have e : most w - x = 2 ^ w - (x + 1) := by unfold most; omega
  rw [e, Nat.testBit_and, Nat.testBit_and, Nat.testBit_and, Nat.testBit_two_pow_sub_succ hx, Nat.zero_testBit]
  cases m.testBit i <;> cases x.testBit i <;> simp
theorem pick_at (l : List Nat) (r : Nat) (h : r < l.length) : atI (l.map fun n : Nat => V.int (n : Int)) (r : Int) = some (.int (l[r] : Nat)) := atI_nat (j := r) (by rw [List.getElem?_map, List.getElem?_eq_getElem h]; rfl)
theorem Kept.nu {H H1 : Hp} {d c p : Addr} {o : HO} {ns : List Int} {n : Nat} (k : Kept (At d) H H1) (D : Dr H1 d c ns n) (h : H1 p = none) : Kept (At d) H (L2.upd H1 p o) := k.new (At.free k D h)
abbrev sLFacts : Stmt := top 12
theorem scLFacts : FnScope ["draw", "wide", "way", "at", "most", "word", "mask"] ["draw", "wide"] (defScope sLFacts) := ⟨rfl, rfl, rfl, by decide +kernel, rfl, by decide +kernel, by decide +kernel⟩
def spLFacts : Sp := fun vs H Q _ => ∃ (d c : Addr) (ns : List Int) (n v : Nat), vs = [.ref d, .int (v : Int)] ∧ Dr H d c ns n ∧ n ≤ 100000 ∧ 1 ≤ v ∧ v ≤ 12 ∧
  ∀ (p : Addr) (z o : Nat) H', Fc v z o → H p = none → Kept (At d) H H' → Dr H' d c ns (n + 4) → H' p = some (.tup (two z o)) → Q (.ref p) H'
section
variable {P : Program} {w : World} {K : PySem.W.Frag} {mg : PySem.Str → Option Value} {base : Heap} {f fN : Addr} {fd fdN : FuncData}
theorem ok_lfacts (F : FnP K "_law_facts" sLFacts f fd) (GLNext : FnOk P w K mg base CX0 2 fN fdN ["draw", "many"] spNext) (bLNext : Binds K fdN ["draw", "many"] []) (kLNext : PySem.W.keepIn K (.ref fN) = true) (gLNext : mg "_law_next" = some (.ref fN)) :
    FnOk P w K mg base CX0 3 f fd ["draw", "wide"] spLFacts := by
  refine F.ok (k := 2) scLFacts (fun vs H Q E h => ?_) (fun cdv A outer s H vs Q E hr h => ?_)
  · obtain ⟨d, c, ns, n, v, rfl, _⟩ := h
    rfl
  · obtain ⟨d, c, ns, n, v, rfl, D, hn, w1, w2, q⟩ := h
    have pb := pow_bound w2
    have pp := pow_pos' (w := v)
    refine ⟨_, PSs.nox (pss_cons (ps_par3 (i := 2) (j := 3) (l := 4) (by rfl) scLFacts.nd rfl rfl rfl (by decide) (by decide) (by decide) rfl rfl rfl (pa_cons (pe_call GLNext hr (by rfl) gLNext kLNext bLNext .nil pass0 (pa_cons (pv 0) (pa_cons pe_int pa_nil))) (pa_cons (pe_call GLNext hr (by rfl) gLNext kLNext bLNext .nil pass0 (pa_cons (pv 0) (pa_cons (pv 1) pa_nil))) (pa_cons (pe_op n_sub (pe_op n_bit pe_int (pv 1)) pe_int) pa_nil))) (by rfl))
      (pss_cons (ps_par (i := 5) (j := 6) (by rfl) scLFacts.nd rfl rfl (by decide) rfl rfl (pa_cons (pe_call GLNext hr (by rfl) gLNext kLNext bLNext .nil pass0 (pa_cons (pv 0) (pa_cons (pe_op n_bit pe_int (pv 1)) pa_nil))) (pa_cons (pe_call GLNext hr (by rfl) gLNext kLNext bLNext .nil pass0 (pa_cons (pv 0) (pa_cons (pe_op n_bit pe_int (pv 1)) pa_nil))) pa_nil)) (by rfl))
      (pss_cons (ps_set (i := 6) scLFacts.nd rfl (Or.inl rfl) (pe_ix ix_list (pe_lst (pa_cons (pv 6) (pa_cons pe_int (pa_cons (pv 4) (pa_cons (pe_op n_sub (pv 4) (pe_op n_bit pe_int (pv 3))) (pa_cons (pe_op n_sub (pv 4) (pe_op n_bit pe_int (pv 3))) (pa_cons (pv 6) pa_nil))))))) (pv 2) (fun _ _ => rfl)))
      (pss_cons (ps_set (i := 5) scLFacts.nd rfl (Or.inl rfl) (pe_ix ix_list (pe_lst (pa_cons (pv 5) (pa_cons pe_int (pa_cons (pv 5) (pa_cons (pv 5) (pa_cons pe_int (pa_cons pe_int pa_nil))))))) (pv 2) (fun _ _ => rfl)))
      (pss_one (ps_ret (pe_tup (pa_cons (pe_op n_and (pv 6) (pe_op n_sub (pv 4) (pv 5))) (pa_cons (pe_op n_and (pv 6) (pv 5)) pa_nil))))))))), ?_⟩
    refine ⟨.ref d, rfl, d, c, ns, n, 6, rfl, D, by omega, by omega, by omega, fun way H1 a0 a1 k1 D1 => ?_⟩
    obtain ⟨way, rfl⟩ := Int.eq_ofNat_of_zero_le a0
    refine ⟨.ref d, rfl, .int v, rfl, d, c, ns, n + 1, v, rfl, D1, by omega, by omega, by omega, fun at_ H2 b0 b1 k2 D2 => ?_⟩
    obtain ⟨at_, rfl⟩ := Int.eq_ofNat_of_zero_le b0
    refine ⟨.int v, rfl, v, rfl, rfl, by omega, 2 ^ v, 1, rfl, rfl, pp, _, _, _, rfl, ?_⟩
    have k3 := k1.trans k2
    have D3 := D2
    refine ⟨.ref d, rfl, .int v, rfl, v, rfl, rfl, by omega, d, c, ns, n + 1 + 1, ((2 ^ v : Nat) : Int), rfl, D3, by omega, by omega, by omega, fun word H4 c0 c1 k4 D4 => ?_⟩
    obtain ⟨word, rfl⟩ := Int.eq_ofNat_of_zero_le c0
    refine ⟨.ref d, rfl, .int v, rfl, v, rfl, rfl, by omega, d, c, ns, n + 1 + 1 + 1, ((2 ^ v : Nat) : Int), rfl, D4, by omega, by omega, by omega, fun mask H5 e0 e1 k5 D5 => ?_⟩
    obtain ⟨mask, rfl⟩ := Int.eq_ofNat_of_zero_le e0
    have k6 := k3.trans (k4.trans k5)
    refine ⟨_, _, rfl, ?_⟩
    have k7 : Kept (At d) H H5 := k6
    have D7 := D5
    have atm : 2 ^ at_ ≤ most v := by
      have := Nat.pow_lt_pow_right (a := 2) (by decide) (show at_ < v by omega)
      unfold most
      omega
    refine ⟨.int mask, rfl, .int (most v), rfl, .int (most v), rfl, .int at_, rfl, at_, rfl, rfl, by omega, most v, 2 ^ at_, rfl, rfl, atm, .int (most v), rfl, .int at_, rfl, at_, rfl, rfl, by omega, most v, 2 ^ at_, rfl, rfl, atm, .int mask, rfl, by show 6 ≤ sizeLine; decide, fun t3 n3 => ?_⟩
    have mv : most v < 2 ^ v := by unfold most; omega
    have hm : ∀ x ∈ [mask, 0, most v, most v - 2 ^ at_, most v - 2 ^ at_, mask], x < 2 ^ v := by
      intro x hx
      simp only [List.mem_cons, List.not_mem_nil, or_false] at hx
      have hs : most v - 2 ^ at_ < 2 ^ v := Nat.lt_of_le_of_lt (Nat.sub_le _ _) mv
      rcases hx with h | h | h | h | h | h <;> rw [h] <;> first | exact mv | exact hs | omega
    have k8 := k7.nu D7 (o := .lst [.int mask, .int 0, .int (most v), .int (most v - 2 ^ at_ : Nat), .int (most v - 2 ^ at_ : Nat), .int mask]) n3
    have D8 := D7.new (o := .lst [.int mask, .int 0, .int (most v), .int (most v - 2 ^ at_ : Nat), .int (most v - 2 ^ at_ : Nat), .int mask]) n3
    refine ⟨.int way, rfl, t3, _, (way : Int), _, rfl, rfl, SqL.of upd_same, pick_at [mask, 0, most v, most v - 2 ^ at_, most v - 2 ^ at_, mask] way (by show way < 6; omega), ?_⟩
    generalize hM : [mask, 0, most v, most v - 2 ^ at_, most v - 2 ^ at_, mask][way]'(by show way < 6; omega) = M
    have hM' : M < 2 ^ v := by rw [← hM]; exact hm _ (List.getElem_mem _)
    generalize upd H5 t3 _ = H7 at k8 D8 ⊢
    refine ⟨.int word, rfl, .int word, rfl, .int word, rfl, by show 6 ≤ sizeLine; decide, fun t4 n4 => ?_⟩
    have k9 := k8.nu D8 (o := .lst [.int word, .int 0, .int word, .int word, .int 0, .int 0]) n4
    have D9 := D8.new (o := .lst [.int word, .int 0, .int word, .int word, .int 0, .int 0]) n4
    have hx : ∀ x ∈ [word, 0, word, word, 0, 0], x < 2 ^ v := by
      intro x hx
      simp only [List.mem_cons, List.not_mem_nil, or_false] at hx
      rcases hx with rfl | rfl | rfl | rfl | rfl | rfl <;> omega
    refine ⟨.int way, rfl, t4, _, (way : Int), _, rfl, rfl, SqL.of upd_same, pick_at [word, 0, word, word, 0, 0] way (by show way < 6; omega), ?_⟩
    generalize hW : [word, 0, word, word, 0, 0][way]'(by show way < 6; omega) = W
    have hW' : W < 2 ^ v := by rw [← hW]; exact hx _ (List.getElem_mem _)
    generalize upd H7 t4 _ = H8 at k9 D9 ⊢
    refine ⟨.int M, rfl, .int (most v), rfl, .int W, rfl, most v, W, rfl, rfl, by unfold most; omega, M, most v - W, rfl, rfl, .int M, rfl, .int W, rfl, M, W, rfl, rfl, by show 2 ≤ sizeLine; decide, fun t5 n5 => ?_⟩
    exact q t5 _ _ _ (fc_of w1 w2 hM' hW') (At.free k9 D9 n5) (k9.nu D9 n5) (D9.new n5) upd_same
end
end K13

set_option Elab.async false
set_option linter.all false
set_option maxRecDepth 100000
set_option maxHeartbeats 4000000
namespace K13
open PySem PySem.Spec PyProof.Rows L2
/-! ### helpers -/
theorem Kept.sqt {K : PySem.W.Frag} {D : Addr → Prop} {H H1 : Hp} (a : Kept D H H1) {p : Addr} {xs : List V} (h : SqT K H p xs) (n : ¬ D p) : SqT K H1 p xs := by
  rcases h with (h | ⟨o, h⟩) | h
  · exact .inl (.inl (a.tup h n))
  · exact .inl (.inr ⟨o, a.frz h n⟩)
  · exact .inr h
def nums (l : List Nat) : List V := l.map fun n : Nat => V.int (n : Int)
def numsD (l : List Nat) : PyData := .list (l.map fun n : Nat => PyData.int (n : Int))
theorem dpNums {K : PySem.W.Frag} {H : Hp} : ∀ l : List Nat, DpAll K H (nums l) (l.map fun n : Nat => PyData.int (n : Int))
  | [] => .nil
  | x :: l => .cons (.int _) (dpNums l)
theorem nums_can : ∀ l : List Nat, PyData.canLayAll0 (l.map fun n : Nat => PyData.int (n : Int)) = true
  | [] => rfl
  | x :: l => by
    show (PyData.canLay0 (PyData.int (x : Int)) && PyData.canLayAll0 (l.map fun n : Nat => PyData.int (n : Int))) = true
    rw [nums_can l, Bool.and_true]; rfl
theorem nums_deep : ∀ l : List Nat, PyData.depthAll (l.map fun n : Nat => PyData.int (n : Int)) = 0
  | [] => rfl
  | x :: l => by
    show max (PyData.depth (PyData.int (x : Int))) (PyData.depthAll (l.map fun n : Nat => PyData.int (n : Int))) = 0
    rw [nums_deep l]; rfl
theorem nums_shaped (l : List Nat) : SeqAt.shaped (numsD l) = true := by
  unfold SeqAt.shaped
  have e : PyData.canLay0 (numsD l) = true := nums_can l
  have d : PyData.depth (numsD l) = 1 := by
    show PyData.depthAll (l.map fun n : Nat => PyData.int (n : Int)) + 1 = 1
    rw [nums_deep]
  rw [e, d]
  rfl
theorem nums_nil (l : List Nat) : PyData.eqv (numsD l) (.list []) = decide (l = []) := by
  cases l with
  | nil => rfl
  | cons x r => simp [numsD, PyData.eqv, PyData.eqvAll]
theorem small_log {i : Int} (h0 : 0 ≤ i) (h1 : i < 1000000000) : i.natAbs.log2 < 1920 := by
  by_cases h : i.natAbs = 0
  · rw [h]; decide
  · exact (Nat.log2_lt h).mpr (Nat.lt_of_lt_of_le (show i.natAbs < 2 ^ 30 by omega) (Nat.pow_le_pow_right (by decide) (by decide)))
/-- a part of an f-string -/
theorem short_int {i : Int} (h0 : 0 ≤ i) (h1 : i < 1000000000) : (PyData.int i).leavesShort 2000 = true := by
  have e := int_text_len_1921 (small_log h0 h1)
  exact decide_eq_true (Nat.le_trans (show (PyData.shown (.int i)).length ≤ 1921 from e) (by decide))
theorem show_int {i : Int} (h0 : 0 ≤ i) (h1 : i < 1000000000) : (PyData.int i).showable = true := decide_eq_true (small_log h0 h1)
def dW (a b : Bool) : PyData := .tuple [.bool a, .bool b]
def dF (z o : Nat) : PyData := .tuple [.int z, .int o]
theorem dW_len (a b : Bool) : (dW a b).shown.length ≤ sizeLine := by
  cases a <;> cases b <;> decide +kernel
theorem dF_ok {z o : Nat} (hz : z < 5000) (ho : o < 5000) : (dF z o).showable = true ∧ (dF z o).shown.length ≤ sizeLine := by
  have a := short_int (i := (z : Int)) (by omega) (by omega)
  have b := short_int (i := (o : Int)) (by omega) (by omega)
  have c := show_int (i := (z : Int)) (by omega) (by omega)
  have d := show_int (i := (o : Int)) (by omega) (by omega)
  constructor
  · show (PyData.showable (PyData.int (z : Int)) && (PyData.showable (PyData.int (o : Int)) && true)) = true
    rw [c, d]; rfl
  · have e := PyData.shown_le_bulk 2000 (by decide) (dF z o) (by
      show (PyData.leavesShort 2000 (PyData.int (z : Int)) && (PyData.leavesShort 2000 (PyData.int (o : Int)) && true)) = true
      rw [a, b]; rfl)
    have f : (dF z o).bulk = 2 := rfl
    rw [f] at e
    rw [sizeLine_eq]
    omega
/-! ### the lists as they grow -/
theorem bitsk (z k : Nat) : (decide (z >>> k &&& 1 = 0)) = freeB z k := (Bool.beq_eq_decide_eq _ _).symm
def freeP (z i : Nat) : List Nat := ((List.range i).filter (freeB z)).map (2 ^ ·)
theorem freeP_succ (z i : Nat) : freeP z (i + 1) = if freeB z i = true then freeP z i ++ [2 ^ i] else freeP z i := by
  unfold freeP
  rw [List.range_succ, List.filter_append, List.map_append]
  by_cases h : freeB z i = true
  · rw [if_pos h, List.filter_cons_of_pos h]; rfl
  · rw [if_neg h, List.filter_cons_of_neg h]; simp
theorem freeP_len (z i : Nat) : (freeP z i).length ≤ i := by
  unfold freeP
  rw [List.length_map]
  exact Nat.le_trans (List.length_filter_le _ _) (by rw [List.length_range]; exact Nat.le_refl _)
def wordsP (z o i : Nat) : List Nat := (List.range' 1 i).filter (fitB z o)
theorem wordsP_succ (z o i : Nat) : wordsP z o (i + 1) = if fitB z o (1 + i) = true then wordsP z o i ++ [1 + i] else wordsP z o i := by
  unfold wordsP
  rw [show List.range' 1 (i + 1) = List.range' 1 i ++ [1 + i] by rw [List.range'_concat]; simp, List.filter_append]
  by_cases h : fitB z o (1 + i) = true
  · rw [if_pos h, List.filter_cons_of_pos h]; rfl
  · rw [if_neg h, List.filter_cons_of_neg h]; simp
theorem wordsP_len (z o i : Nat) : (wordsP z o i).length ≤ i := by
  unfold wordsP
  exact Nat.le_trans (List.length_filter_le _ _) (by rw [List.length_range']; exact Nat.le_refl _)
theorem fold_take (m : Nat) (l : List Nat) (i x : Nat) (h : l[i]? = some x) : foldB m (l.take (i + 1)) = ((foldB m (l.take i)).1 &&& x, (foldB m (l.take i)).2 ||| x) := by
  unfold foldB
  rw [List.take_add_one, h, List.foldl_append]
  rfl
theorem fold_le (m : Nat) {n : Nat} : ∀ (l : List Nat) (p : Nat × Nat), p.2 < 2 ^ n → (∀ x ∈ l, x < 2 ^ n) → (l.foldl (fun p x => (p.1 &&& x, p.2 ||| x)) p).2 < 2 ^ n
  | [], p, h, _ => h
  | x :: l, p, h, hl => fold_le m l (p.1 &&& x, p.2 ||| x) (Nat.or_lt_two_pow h (hl x List.mem_cons_self)) fun y hy => hl y (List.mem_cons_of_mem _ hy)
abbrev sLRight : Stmt := top 13
theorem scLRight : FnScope ["wide", "facts", "most", "free", "due", "first", "word", "words", "every", "some", "k"] ["wide", "facts"] (defScope sLRight) := ⟨rfl, rfl, rfl, by decide +kernel, rfl, by decide +kernel, by decide +kernel⟩
def spRight (K : PySem.W.Frag) : Sp := fun vs H Q _ => ∃ (p : Addr) (v z o : Nat), vs = [.int (v : Int), .ref p] ∧ SqT K H p (two z o) ∧ Fc v z o ∧ ∀ H', Kept None H H' → Q (.bl true) H'
end K13

set_option Elab.async false
set_option linter.all false
set_option maxRecDepth 100000
set_option maxHeartbeats 4000000
namespace K13
open PySem PySem.Spec PyProof.Rows L2
theorem sqt_new {K : PySem.W.Frag} {H : Hp} {p b : Addr} {xs : List V} {o : HO} (h : SqT K H p xs) (n : H b = none) : SqT K (upd H b o) p xs := by
  rcases h with (h | ⟨o', h⟩) | h
  · exact .inl (.inl (by rw [upd_ne (ne_of_none h n)]; exact h))
  · exact .inl (.inr ⟨o', by rw [upd_ne (ne_of_none h n)]; exact h⟩)
  · exact .inr h
theorem sqt_upd {K : PySem.W.Frag} {H : Hp} {p b : Addr} {xs ys zs : List V} (h : SqT K H p xs) (e : H b = some (.lst ys)) : SqT K (upd H b (.lst zs)) p xs := by
  rcases h with (h | ⟨o', h⟩) | h
  · exact .inl (.inl (by rw [upd_ne (ne_of h e (by intro z; cases z))]; exact h))
  · exact .inl (.inr ⟨o', by rw [upd_ne (ne_of h e (by intro z; cases z))]; exact h⟩)
  · exact .inr h
theorem first_two (v z o : Nat) : two (first v z o).1 (first v z o).2 = if great v z &&& (great v z - 1) = 0 then two z (great v z) else two z o := by
  unfold first
  split <;> rfl
theorem first_lt {v z o : Nat} (fc : Fc v z o) : (first v z o).1 < 5000 ∧ (first v z o).2 < 5000 := by
  have pb := pow_bound fc.w2
  have h1 := fc.hz
  have h2 := fc.ho
  have pp := pow_pos' (w := v)
  have h3 : great v z < 2 ^ v := Nat.xor_lt_two_pow (by unfold most; omega) h1
  unfold first
  split
  · exact ⟨by show z < 5000; omega, by show great v z < 5000; omega⟩
  · exact ⟨by show z < 5000; omega, by show o < 5000; omega⟩
abbrev tB (K : PySem.W.Frag) : TT := tTest (tOp rEqN (tOp rAndN (tOp rShrN (tOp (rIxT K) (tVar 1) (tC (.int 0))) (tVar 10)) (tC (.int 1))) (tC (.int 0)))
abbrev tW (K : PySem.W.Frag) : TT := tAnd (tTest (tOp rEqN (tOp rAndN (tVar 6) (tOp (rIxT K) (tVar 1) (tC (.int 0)))) (tC (.int 0)))) (tTest (tOp rEqN (tOp rAndN (tVar 6) (tOp (rIxT K) (tVar 1) (tC (.int 1)))) (tOp (rIxT K) (tVar 1) (tC (.int 1)))))
section
variable {P : Program} {w : World} {K : PySem.W.Frag} {mg : PySem.Str → Option Value} {base : Heap} {f fA fB : Addr} {fd fdA fdB : FuncData}
set_option pp.fieldNotation false in
theorem ok_lright (F : FnP K "_law_right" sLRight f fd) (GA : FnOk P w K mg base CX0 2 fA fdA ["wide", "facts"] (spWays K)) (bA' : Binds K fdA ["wide", "facts"] []) (kA : PySem.W.keepIn K (.ref fA) = true) (gA : mg "ways_of" = some (.ref fA))
    (GB : FnOk P w K mg base CX0 2 fB fdB ["wide", "facts"] (spFirst K)) (bB' : Binds K fdB ["wide", "facts"] []) (kB : PySem.W.keepIn K (.ref fB) = true) (gB : mg "first_facts" = some (.ref fB))
    (m_range : mg "range" = none) (m_repr : mg "repr" = none) (m_len : mg "len" = none) : FnG P w K mg base 3 f fd ["wide", "facts"] (spRight K) := by
  refine fnG_of (k := 2) F scLRight (fun vs H Q E h => ?_) (fun cdv A outer s H vs Q E gd hr h => ?_)
  · obtain ⟨p, v, z, o, rfl, _⟩ := h
    rfl
  · obtain ⟨p, v, z, o, rfl, hs, fc, q⟩ := h
    have w1 := fc.w1
    have w2 := fc.w2
    have pb := pow_bound w2
    have pp := pow_pos' (w := v)
    have hmv : most v < 2 ^ v := by unfold most; omega
    have hm1 : most v + 1 = 2 ^ v := by unfold most; omega
    refine ⟨_, PSs.nox (pss_cons (ps_set (i := 2) scLRight.nd rfl (Or.inl rfl) (pe_op n_sub (pe_op n_bit pe_int (pv 0)) pe_int))
    (pss_cons (ps_setLc (i := 3) (own := [("k", 10)]) (g := gName 10) (tt := tB K) (te := tOp rBit (tC (.int 1)) (tVar 10)) rfl scLRight.nd rfl rfl (sw_true rfl rfl rfl (by decide +kernel)) (pi_range1 rfl m_range (pa_cons (pv 0) pa_nil)) (blkOk_by (own := [("k", 10)]) (N := ["wide", "facts", "most", "free", "due", "first", "word", "words", "every", "some", "k"]) (sc := defScope sLRight) (by decide +kernel))
      (by exact (fun _ _ _ _ _ => (pg_name (i := 10) scLRight.nd rfl (Or.inl rfl)))) (by exact (fun _ _ _ _ _ => (pts_one (pt_cmpR n_eq (pe_op n_and (pe_op n_shr (pe_ix ix_tup (pv 1) pe_int (fun _ _ => rfl)) (pv 10)) pe_int) pe_int (nomark _))))) (by exact (fun _ _ _ _ _ => (pe_op n_bit pe_int (pv 10)))))
    (pss_cons (ps_set (i := 4) scLRight.nd rfl (Or.inl rfl) (pe_tup (pa_cons (pe_cmpR (op_neD hr.units) (pv 3) (pe_lst pa_nil) (nomark _)) (pa_cons (pe_cmpR n_eq (pe_ix ix_tup (pv 1) pe_int (fun _ _ => rfl)) pe_int (nomark _)) pa_nil))))
    (pss_cons (ps_if (PW.pt (pw_or (pt_cmpR op_ne (pe_callB (call_reprL gd hr) (by rfl) m_repr (by decide +kernel) (pa_cons (pe_call GA hr (by rfl) gA kA bA' .nil pass0 (pa_cons (pv 0) (pa_cons (pv 1) pa_nil))) pa_nil)) (pe_callB (call_reprL gd hr) (by rfl) m_repr (by decide +kernel) (pa_cons (pv 4) pa_nil)) (nomark _)) (pw_or1 (pt_cmpR op_ne (pe_callB (call_reprL gd hr) (by rfl) m_repr (by decide +kernel) (pa_cons (pe_call GA hr (by rfl) gA kA bA' .nil pass0 (pa_cons (pv 0) (pa_cons (pv 1) pa_nil))) pa_nil)) (pe_callB (call_reprL gd hr) (by rfl) m_repr (by decide +kernel) (pa_cons (pv 4) pa_nil)) (nomark _)))))
      (pss_one (ps_ret pe_bl))
      pss_nil)
    (pss_cons (ps_if (pt_cmpR (op_eqD hr.units) (pv 3) (pe_lst pa_nil) (nomark _))
      (pss_one (ps_ret pe_bl))
      pss_nil)
    (pss_cons (ps_set (i := 5) scLRight.nd rfl (Or.inl rfl) (pe_ifExp (pt_cmpR n_eq (pe_callB call_len_seq (by rfl) m_len PySem.boot_len (pa_cons (pv 3) pa_nil)) pe_int (nomark _)) (pe_tup (pa_cons (pe_ix ix_tup (pv 1) pe_int (fun _ _ => rfl)) (pa_cons (pe_ix ix_list (pv 3) pe_int (fun _ _ => rfl)) pa_nil))) (pv 1)))
    (pss_cons (ps_if (pt_cmpR n_lt (pv 0) pe_int (nomark _))
      (pss_cons (ps_setLc (i := 7) (own := [("word", 6)]) (g := gName 6) (tt := tW K) (te := tVar 6) rfl scLRight.nd rfl rfl (sw_true rfl rfl rfl (by decide +kernel)) (pi_range2 rfl m_range (pa_cons pe_int (pa_cons (pe_op n_add (pv 2) pe_int) pa_nil))) (blkOk_by (own := [("word", 6)]) (N := ["wide", "facts", "most", "free", "due", "first", "word", "words", "every", "some", "k"]) (sc := defScope sLRight) (by decide +kernel))
        (by exact (fun _ _ _ _ _ => (pg_name (i := 6) scLRight.nd rfl (Or.inl rfl)))) (by exact (fun _ _ _ _ _ => (pts_one (PW.pt (pw_and (pt_cmpR n_eq (pe_op n_and (pv 6) (pe_ix ix_tup (pv 1) pe_int (fun _ _ => rfl))) pe_int (nomark _)) (pw_and1 (pt_cmpR n_eq (pe_op n_and (pv 6) (pe_ix ix_tup (pv 1) pe_int (fun _ _ => rfl))) (pe_ix ix_tup (pv 1) pe_int (fun _ _ => rfl)) (nomark _)))))))) (by exact (fun _ _ _ _ _ => (pv 6))))
      (pss_cons (ps_par (i := 8) (j := 9) (by rfl) scLRight.nd rfl rfl (by decide) rfl rfl (pa_cons (pv 2) (pa_cons pe_int pa_nil)) (by rfl))
      (pss_cons (ps_for PassesOwn.never rfl (pi_list (pv 7)) (pg_name (i := 6) scLRight.nd rfl (Or.inl rfl))
        (pss_one (ps_par (i := 8) (j := 9) (by rfl) scLRight.nd rfl rfl (by decide) rfl rfl (pa_cons (pe_op n_and (pv 8) (pv 6)) (pa_cons (pe_op n_or (pv 9) (pv 6)) pa_nil)) (by rfl))))
      (pss_one (ps_set (i := 5) scLRight.nd rfl (Or.inl rfl) (pe_tup (pa_cons (pe_op n_sub (pv 2) (pv 9)) (pa_cons (pv 8) pa_nil))))))))
      pss_nil)
    (pss_one (ps_ret (pe_and (pe_cmpR op_eq (pe_callB (call_reprL gd hr) (by rfl) m_repr (by decide +kernel) (pa_cons (pe_call GB hr (by rfl) gB kB bB' .nil pass0 (pa_cons (pv 0) (pa_cons (pv 1) pa_nil))) pa_nil)) (pe_callB (call_reprL gd hr) (by rfl) m_repr (by decide +kernel) (pa_cons (pv 5) pa_nil)) (nomark _)) (pe_one (pe_cmpR op_eq (pe_callB (call_reprL gd hr) (by rfl) m_repr (by decide +kernel) (pa_cons (pe_call GB hr (by rfl) gB kB bB' .nil pass0 (pa_cons (pv 0) (pa_cons (pv 1) pa_nil))) pa_nil)) (pe_callB (call_reprL gd hr) (by rfl) m_repr (by decide +kernel) (pa_cons (pv 5) pa_nil)) (nomark _))))))))))))), ?_⟩
    -- most; free
    refine ⟨.int v, rfl, v, rfl, rfl, by omega, 2 ^ v, 1, rfl, rfl, pp, ?_⟩
    refine ⟨.int v, rfl, v, rfl, by omega, by omega, fun D0 hD0 => ?_⟩
    refine lc_range (lo := 0) (n := v) (fun i H' => Kept None H H' ∧ H' D0 = some (.lst (nums (freeP z i)))) ⟨Kept.refl.new hD0, upd_same⟩ (fun i H' hi h => ?_) (fun H1 h => ?_)
    · obtain ⟨k1, k2⟩ := h
      refine ⟨rfl, .ref p, rfl, p, two z o, 0, .int z, rfl, rfl, k1.sqt hs (fun z => z), atI_nat (j := 0) rfl, .int (0 + i), rfl, z, i, rfl, by rw [Int.zero_add], z >>> i, 1, rfl, rfl, z >>> i &&& 1, 0, rfl, rfl, _, rfl, ?_⟩
      rw [bitsk]
      have st := freeP_succ z i
      cases hb : freeB z i with
      | true =>
        rw [hb, if_pos rfl] at st
        refine iteT ⟨.int (0 + i), rfl, i, rfl, by rw [Int.zero_add], by omega, nums (freeP z i), k2, ?_, k1.new hD0, ?_⟩
        · have := freeP_len z i
          unfold nums
          rw [List.length_map, sizeLine_eq]
          omega
        · rw [upd_same, st]
          unfold nums
          rw [List.map_append]
          rfl
      | false =>
        rw [hb, if_neg (by decide)] at st
        refine iteF ⟨k1, ?_⟩
        rw [st]
        exact k2
    · obtain ⟨k1, e1⟩ := h
      -- due
      have eb : (!PyData.eqv (numsD (freeP z v)) (.list [])) = decide (0 < great v z) := by
        rw [nums_nil, show freeP z v = free v z from rfl, decide_eq_decide.mpr (free_nil (by omega) fc.hz)]
        by_cases hg : great v z = 0
        · rw [decide_eq_true hg, decide_eq_false (by omega)]; rfl
        · rw [decide_eq_false hg, decide_eq_true (by omega)]; rfl
      refine ⟨.ref D0, rfl, Nat.zero_le _, fun l hl => ?_⟩
      have eD : upd H1 l (.lst []) D0 = some (.lst (nums (freeP z v))) := by rw [upd_ne (ne_of_none e1 hl)]; exact e1
      have k2 : Kept None H (upd H1 l (.lst [])) := k1.new (k1.free hl)
      refine ⟨numsD (freeP z v), .list [], .lst (SqL.of eD) (dpNums _), .lst (SqL.of upd_same) .nil, nums_shaped _, by rfl, ?_⟩
      rw [eb]
      refine ⟨.ref p, rfl, p, two z o, 1, .int o, rfl, rfl, k2.sqt hs (fun z => z), atI_nat (j := 1) rfl, o, 0, rfl, rfl, by show 2 ≤ sizeLine; decide, fun t ht => ?_⟩
      have eD3 : upd (upd H1 l (.lst [])) t (.tup [.bl (decide (0 < great v z)), .bl (decide (o = 0))]) D0 = some (.lst (nums (freeP z v))) := by rw [upd_ne (ne_of_none eD ht)]; exact eD
      have eT3 : upd (upd H1 l (.lst [])) t (.tup [.bl (decide (0 < great v z)), .bl (decide (o = 0))]) t = some (.tup [.bl (decide (0 < great v z)), .bl (decide (o = 0))]) := upd_same
      have k3 : Kept None H (upd (upd H1 l (.lst [])) t (.tup [.bl (decide (0 < great v z)), .bl (decide (o = 0))])) := k2.new (k2.free ht)
      generalize upd (upd H1 l (.lst [])) t (.tup [.bl (decide (0 < great v z)), .bl (decide (o = 0))]) = H3 at eD3 eT3 k3 ⊢
      -- ways_of, twice
      refine ⟨.int v, rfl, .ref p, rfl, p, v, z, o, rfl, k3.sqt hs (fun z => z), w2, fun t2 h2 => ⟨t2, dW (decide (0 < great v z)) (decide (o = 0)), rfl, .tup (SqT.of upd_same) (.cons (.bl _) (.cons (.bl _) .nil)), rfl, rfl, by show 1 ≤ 100; decide, dW_len _ _, .ref t, rfl, t, dW (decide (0 < great v z)) (decide (o = 0)), rfl, .tup (sqt_new (SqT.of eT3) h2) (.cons (.bl _) (.cons (.bl _) .nil)), rfl, rfl, by show 1 ≤ 100; decide, dW_len _ _, rfl, ?_⟩⟩
      rw [decide_eq_true rfl]
      refine ⟨_, rfl, iteF ?_⟩
      have k4 : Kept None H (upd H3 t2 (.tup [.bl (decide (0 < great v z)), .bl (decide (o = 0))])) := k3.new (k3.free h2)
      have eD4 : upd H3 t2 (.tup [.bl (decide (0 < great v z)), .bl (decide (o = 0))]) D0 = some (.lst (nums (freeP z v))) := by rw [upd_ne (ne_of_none eD3 h2)]; exact eD3
      refine ⟨.int v, rfl, .ref p, rfl, p, v, z, o, rfl, k4.sqt hs (fun z => z), w2, fun t3 h3 => ⟨t3, dW (decide (0 < great v z)) (decide (o = 0)), rfl, .tup (SqT.of upd_same) (.cons (.bl _) (.cons (.bl _) .nil)), rfl, rfl, by show 1 ≤ 100; decide, dW_len _ _, .ref t, rfl, t, dW (decide (0 < great v z)) (decide (o = 0)), rfl, .tup (sqt_new (sqt_new (SqT.of eT3) h2) h3) (.cons (.bl _) (.cons (.bl _) .nil)), rfl, rfl, by show 1 ≤ 100; decide, dW_len _ _, rfl, ?_⟩⟩
      rw [decide_eq_true rfl]
      refine ⟨_, rfl, iteF ?_⟩
      have k5 : Kept None H (upd (upd H3 t2 (.tup [.bl (decide (0 < great v z)), .bl (decide (o = 0))])) t3 (.tup [.bl (decide (0 < great v z)), .bl (decide (o = 0))])) := k4.new (k4.free h3)
      have eD5 : upd (upd H3 t2 (.tup [.bl (decide (0 < great v z)), .bl (decide (o = 0))])) t3 (.tup [.bl (decide (0 < great v z)), .bl (decide (o = 0))]) D0 = some (.lst (nums (freeP z v))) := by rw [upd_ne (ne_of_none eD4 h3)]; exact eD4
      generalize upd (upd H3 t2 (.tup [.bl (decide (0 < great v z)), .bl (decide (o = 0))])) t3 (.tup [.bl (decide (0 < great v z)), .bl (decide (o = 0))]) = H5 at eD5 k5 ⊢
      -- if free == []
      refine ⟨.ref D0, rfl, Nat.zero_le _, fun l2 hl2 => ?_⟩
      have eD6 : upd H5 l2 (.lst []) D0 = some (.lst (nums (freeP z v))) := by rw [upd_ne (ne_of_none eD5 hl2)]; exact eD5
      have k6 : Kept None H (upd H5 l2 (.lst [])) := k5.new (k5.free hl2)
      refine ⟨numsD (freeP z v), .list [], .lst (SqL.of eD6) (dpNums _), .lst (SqL.of upd_same) .nil, nums_shaped _, by rfl, ?_⟩
      rw [nums_nil]
      refine ⟨_, rfl, ite2 (fun hf => ?_) (fun hf => ?_)⟩
      · exact q _ k6
      have hne : freeP z v ≠ [] := fun e => hf (decide_eq_true e)
      have g0 : great v z ≠ 0 := fun e => hne ((free_nil (by omega) fc.hz).mpr e)
      have gpos : 0 < great v z := by omega
      generalize upd H5 l2 (.lst []) = H6 at eD6 k6 ⊢
      -- first
      have hlen : (nums (freeP z v)).length = (freeP z v).length := List.length_map ..
      refine ⟨.ref D0, rfl, D0, nums (freeP z v), rfl, .inl (SqL.of eD6), (nums (freeP z v)).length, 1, rfl, rfl, _, rfl, ite2 (fun h1 => ?_) (fun h1 => ?_)⟩
      · have h1 : (freeP z v).length = 1 := by rw [← hlen]; exact of_decide_eq_true h1
        have hF : freeP z v = [great v z] := free_at (by omega) fc.hz h1
        have a5eq : two z (great v z) = two (first v z o).1 (first v z o).2 := by
          rw [first_two, if_pos ((free_one (by omega) fc.hz g0).mpr h1)]
        refine ⟨.ref p, rfl, p, two z o, 0, .int z, rfl, rfl, k6.sqt hs (fun z => z), atI_nat (j := 0) rfl, .ref D0, rfl, D0, nums (freeP z v), 0, .int (great v z), rfl, rfl, SqL.of eD6, ?_, by show 2 ≤ sizeLine; decide, fun a5 h5 => ?_⟩
        · rw [hF]; exact atI_nat (j := 0) rfl
        have k7 : Kept None H (upd H6 a5 (.tup [.int (z : Nat), .int (great v z : Nat)])) := k6.new (k6.free h5)
        have e5 : SqT K (upd H6 a5 (.tup [.int (z : Nat), .int (great v z : Nat)])) a5 (two z (great v z)) := SqT.of upd_same
        generalize upd H6 a5 (.tup [.int (z : Nat), .int (great v z : Nat)]) = H7 at k7 e5 ⊢
        refine ⟨.int v, rfl, v, 7, rfl, rfl, _, rfl, ite2 (fun h7 => ?_) (fun h7 => ?_)⟩
        · have h7 : v < 7 := of_decide_eq_true h7
          refine ⟨.int (most v), rfl, most v, 1, rfl, rfl, 1, ((most v + 1 : Nat) : Int), rfl, ⟨by decide, by decide, by omega, by omega⟩, fun D1 hD1 => ?_⟩
          have en : (((most v + 1 : Nat) : Int) - 1).toNat = most v := by omega
          refine lc_range (lo := 1) (n := (((most v + 1 : Nat) : Int) - 1).toNat) (fun i H' => Kept None H H' ∧ SqT K H' a5 (two z (great v z)) ∧ H' D1 = some (.lst (nums (wordsP z o i)))) ⟨k7.new (k7.free hD1), sqt_new e5 hD1, upd_same⟩ (fun i H' hi h => ?_) (fun H8 h => ?_)
          · obtain ⟨k1, k2, k3⟩ := h
            have hc : (1 : Int) + (i : Int) = ((1 + i : Nat) : Int) := by omega
            have nD1 : H D1 = none := k7.free hD1
            have st := wordsP_succ z o i
            have keep : fitB z o (1 + i) = true → ∃ acc, H' D1 = some (.lst acc) ∧ acc.length < sizeLine ∧ Kept None H (upd H' D1 (.lst (acc ++ [.int (1 + (i : Int))]))) ∧ SqT K (upd H' D1 (.lst (acc ++ [.int (1 + (i : Int))]))) a5 (two z (great v z)) ∧ upd H' D1 (.lst (acc ++ [.int (1 + (i : Int))])) D1 = some (.lst (nums (wordsP z o (i + 1)))) := fun hb => by
              rw [hb, if_pos rfl] at st
              refine ⟨nums (wordsP z o i), k3, ?_, k1.new nD1, ?_, ?_⟩
              · have := wordsP_len z o i
                unfold nums
                rw [List.length_map, sizeLine_eq]
                omega
              · exact sqt_upd k2 k3
              · rw [upd_same, st, hc]
                unfold nums
                rw [List.map_append]
                rfl
            have drop : fitB z o (1 + i) = false → Kept None H H' ∧ SqT K H' a5 (two z (great v z)) ∧ H' D1 = some (.lst (nums (wordsP z o (i + 1)))) := fun hb => by
              rw [hb, if_neg (by decide)] at st
              rw [st]
              exact ⟨k1, k2, k3⟩
            refine ⟨rfl, .int (1 + i), rfl, .ref p, rfl, p, two z o, 0, .int z, rfl, rfl, k1.sqt hs (fun z => z), atI_nat (j := 0) rfl, 1 + i, z, by rw [hc], rfl, (1 + i) &&& z, 0, rfl, rfl, _, rfl, ite2 (fun ha => ?_) (fun ha => ?_)⟩
            · refine ⟨.int (1 + i), rfl, .ref p, rfl, p, two z o, 1, .int o, rfl, rfl, k1.sqt hs (fun z => z), atI_nat (j := 1) rfl, 1 + i, o, by rw [hc], rfl, .ref p, rfl, p, two z o, 1, .int o, rfl, rfl, k1.sqt hs (fun z => z), atI_nat (j := 1) rfl, (1 + i) &&& o, o, rfl, rfl, _, rfl, ite2 (fun hb => ?_) (fun hb => ?_)⟩
              · exact ⟨.int (1 + i), rfl, keep (by unfold fitB; rw [beq_iff_eq.mpr (of_decide_eq_true ha), beq_iff_eq.mpr (of_decide_eq_true hb)]; rfl)⟩
              · exact drop (by unfold fitB; rw [beq_eq_false_iff_ne.mpr (fun e => hb (decide_eq_true e)), Bool.and_false])
            · exact iteF (drop (by unfold fitB; rw [beq_eq_false_iff_ne.mpr (fun e => ha (decide_eq_true e)), Bool.false_and]))
          · obtain ⟨k8, e5', e8⟩ := h
            rw [en, show wordsP z o (most v) = wordsOf v z o from rfl] at e8
            refine ⟨.int (most v), rfl, _, _, rfl, .ref D1, rfl, D1, rfl, ⟨_, SqL.of e8⟩, ?_⟩
            refine for_list (K := K) (a := D1) (xs := nums (wordsOf v z o)) (fun i σ H' => H' = H8 ∧ ∃ y6, σ = [some (.int (v : Int)), some (.ref p), some (.int (most v : Nat)), some (.ref D0), some (.ref t), some (.ref a5), y6, some (.ref D1), some (.int ((foldB (most v) ((wordsOf v z o).take i)).1 : Nat)), some (.int ((foldB (most v) ((wordsOf v z o).take i)).2 : Nat)), none]) ⟨rfl, none, rfl⟩ (fun i σ H' _ h => ?_) (fun i x σ H' hx h => ?_) (fun σ H' h => ?_)
            · rw [h.1]; exact SqL.of e8
            · obtain ⟨rfl, y6, rfl⟩ := h
              have hx' : ∃ n : Nat, (wordsOf v z o)[i]? = some n ∧ x = .int (n : Int) := by
                unfold nums at hx
                rw [List.getElem?_map] at hx
                cases hn : (wordsOf v z o)[i]? with
                | none => rw [hn] at hx; cases hx
                | some n => rw [hn] at hx; exact ⟨n, rfl, (Option.some.inj hx).symm⟩
              obtain ⟨n, hn, rfl⟩ := hx'
              have ft := fold_take (most v) _ i n hn
              refine ⟨_, rfl, .int n, rfl, _, n, rfl, rfl, _, rfl, .int n, rfl, _, n, rfl, rfl, _, _, rfl, ?_⟩
              refine ⟨rfl, some (.int n), ?_⟩
              rw [ft]
              rfl
            · obtain ⟨rfl, y6, rfl⟩ := h
              have hL : (nums (wordsOf v z o)).length = (wordsOf v z o).length := List.length_map ..
              have fl := fold_first h7 fc.hz fc.ho fc.no g0
              have hle : (foldB (most v) (wordsOf v z o)).2 < 2 ^ v := fold_le (n := v) (most v) (wordsOf v z o) (most v, 0) pow_pos' (fun x hx => by
                have hx2 := (List.mem_filter.mp (show x ∈ (List.range' 1 (most v)).filter (fitB z o) from hx)).1
                have := List.mem_range'_1.mp hx2
                omega)
              have ta : (wordsOf v z o).take (nums (wordsOf v z o)).length = wordsOf v z o := List.take_of_length_le (by rw [hL]; exact Nat.le_refl _)
              rw [ta]
              refine ⟨.int (most v), rfl, _, rfl, most v, (foldB (most v) (wordsOf v z o)).2, rfl, rfl, by omega, _, rfl, by show 2 ≤ sizeLine; decide, fun a6 h6 => ?_⟩
              have e6 : SqT K (upd H' a6 (.tup [.int ((most v - (foldB (most v) (wordsOf v z o)).2 : Nat) : Int), .int ((foldB (most v) (wordsOf v z o)).1 : Nat)])) a6 (two (first v z o).1 (first v z o).2) := by
                rw [← fl]
                exact SqT.of upd_same
              have k9 : Kept None H (upd H' a6 (.tup [.int ((most v - (foldB (most v) (wordsOf v z o)).2 : Nat) : Int), .int ((foldB (most v) (wordsOf v z o)).1 : Nat)])) := k8.new (k8.free h6)
              generalize upd H' a6 (.tup [.int ((most v - (foldB (most v) (wordsOf v z o)).2 : Nat) : Int), .int ((foldB (most v) (wordsOf v z o)).1 : Nat)]) = HH at e6 k9 ⊢
              have kk := k9
              have e5 := e6
              have ef := first_two v z o
              have fz := first_lt fc
              refine ⟨.int v, rfl, .ref p, rfl, p, v, z, o, rfl, kk.sqt hs (fun z => z), w2, gpos, fun t6 h6 => ⟨t6, dF (first v z o).1 (first v z o).2, rfl, .tup (SqT.of upd_same) (.cons (.int _) (.cons (.int _) .nil)), (dF_ok (by omega) (by omega)).1, rfl, by show 1 ≤ 100; decide, (dF_ok (by omega) (by omega)).2, .ref a6, rfl, a6, dF (first v z o).1 (first v z o).2, rfl, .tup (sqt_new e5 h6) (.cons (.int _) (.cons (.int _) .nil)), (dF_ok (by omega) (by omega)).1, rfl, by show 1 ≤ 100; decide, (dF_ok (by omega) (by omega)).2, rfl, ?_⟩⟩
              rw [decide_eq_true rfl]
              refine ⟨_, rfl, iteT ?_⟩
              have k6 : Kept None H (upd HH t6 (.tup (two (first v z o).1 (first v z o).2))) := kk.new (kk.free h6)
              refine ⟨.int v, rfl, .ref p, rfl, p, v, z, o, rfl, k6.sqt hs (fun z => z), w2, gpos, fun t7 h7 => ⟨t7, dF (first v z o).1 (first v z o).2, rfl, .tup (SqT.of upd_same) (.cons (.int _) (.cons (.int _) .nil)), (dF_ok (by omega) (by omega)).1, rfl, by show 1 ≤ 100; decide, (dF_ok (by omega) (by omega)).2, .ref a6, rfl, a6, dF (first v z o).1 (first v z o).2, rfl, .tup (sqt_new (sqt_new e5 h6) h7) (.cons (.int _) (.cons (.int _) .nil)), (dF_ok (by omega) (by omega)).1, rfl, by show 1 ≤ 100; decide, (dF_ok (by omega) (by omega)).2, rfl, ?_⟩⟩
              rw [decide_eq_true rfl]
              exact q _ (k6.new (k6.free h7))
        · have h7 : ¬ v < 7 := fun e => h7 (decide_eq_true e)
          have kk := k7
          rw [a5eq] at e5
          have ef := first_two v z o
          have fz := first_lt fc
          refine ⟨.int v, rfl, .ref p, rfl, p, v, z, o, rfl, kk.sqt hs (fun z => z), w2, gpos, fun t6 h6 => ⟨t6, dF (first v z o).1 (first v z o).2, rfl, .tup (SqT.of upd_same) (.cons (.int _) (.cons (.int _) .nil)), (dF_ok (by omega) (by omega)).1, rfl, by show 1 ≤ 100; decide, (dF_ok (by omega) (by omega)).2, .ref a5, rfl, a5, dF (first v z o).1 (first v z o).2, rfl, .tup (sqt_new e5 h6) (.cons (.int _) (.cons (.int _) .nil)), (dF_ok (by omega) (by omega)).1, rfl, by show 1 ≤ 100; decide, (dF_ok (by omega) (by omega)).2, rfl, ?_⟩⟩
          rw [decide_eq_true rfl]
          refine ⟨_, rfl, iteT ?_⟩
          have k6 : Kept None H (upd H7 t6 (.tup (two (first v z o).1 (first v z o).2))) := kk.new (kk.free h6)
          refine ⟨.int v, rfl, .ref p, rfl, p, v, z, o, rfl, k6.sqt hs (fun z => z), w2, gpos, fun t7 h7 => ⟨t7, dF (first v z o).1 (first v z o).2, rfl, .tup (SqT.of upd_same) (.cons (.int _) (.cons (.int _) .nil)), (dF_ok (by omega) (by omega)).1, rfl, by show 1 ≤ 100; decide, (dF_ok (by omega) (by omega)).2, .ref a5, rfl, a5, dF (first v z o).1 (first v z o).2, rfl, .tup (sqt_new (sqt_new e5 h6) h7) (.cons (.int _) (.cons (.int _) .nil)), (dF_ok (by omega) (by omega)).1, rfl, by show 1 ≤ 100; decide, (dF_ok (by omega) (by omega)).2, rfl, ?_⟩⟩
          rw [decide_eq_true rfl]
          exact q _ (k6.new (k6.free h7))
      · have h1 : ¬ (freeP z v).length = 1 := fun e => h1 (decide_eq_true (by rw [hlen]; exact e))
        have a5eq : two z o = two (first v z o).1 (first v z o).2 := by
          rw [first_two, if_neg (fun e => h1 ((free_one (by omega) fc.hz g0).mp e))]
        refine ⟨.ref p, rfl, ?_⟩
        have k7 := k6
        have e5 : SqT K H6 p (two z o) := k6.sqt hs (fun z => z)
        refine ⟨.int v, rfl, v, 7, rfl, rfl, _, rfl, ite2 (fun h7 => ?_) (fun h7 => ?_)⟩
        · have h7 : v < 7 := of_decide_eq_true h7
          refine ⟨.int (most v), rfl, most v, 1, rfl, rfl, 1, ((most v + 1 : Nat) : Int), rfl, ⟨by decide, by decide, by omega, by omega⟩, fun D1 hD1 => ?_⟩
          have en : (((most v + 1 : Nat) : Int) - 1).toNat = most v := by omega
          refine lc_range (lo := 1) (n := (((most v + 1 : Nat) : Int) - 1).toNat) (fun i H' => Kept None H H' ∧ SqT K H' p (two z o) ∧ H' D1 = some (.lst (nums (wordsP z o i)))) ⟨k7.new (k7.free hD1), sqt_new e5 hD1, upd_same⟩ (fun i H' hi h => ?_) (fun H8 h => ?_)
          · obtain ⟨k1, k2, k3⟩ := h
            have hc : (1 : Int) + (i : Int) = ((1 + i : Nat) : Int) := by omega
            have nD1 : H D1 = none := k7.free hD1
            have st := wordsP_succ z o i
            have keep : fitB z o (1 + i) = true → ∃ acc, H' D1 = some (.lst acc) ∧ acc.length < sizeLine ∧ Kept None H (upd H' D1 (.lst (acc ++ [.int (1 + (i : Int))]))) ∧ SqT K (upd H' D1 (.lst (acc ++ [.int (1 + (i : Int))]))) p (two z o) ∧ upd H' D1 (.lst (acc ++ [.int (1 + (i : Int))])) D1 = some (.lst (nums (wordsP z o (i + 1)))) := fun hb => by
              rw [hb, if_pos rfl] at st
              refine ⟨nums (wordsP z o i), k3, ?_, k1.new nD1, ?_, ?_⟩
              · have := wordsP_len z o i
                unfold nums
                rw [List.length_map, sizeLine_eq]
                omega
              · exact sqt_upd k2 k3
              · rw [upd_same, st, hc]
                unfold nums
                rw [List.map_append]
                rfl
            have drop : fitB z o (1 + i) = false → Kept None H H' ∧ SqT K H' p (two z o) ∧ H' D1 = some (.lst (nums (wordsP z o (i + 1)))) := fun hb => by
              rw [hb, if_neg (by decide)] at st
              rw [st]
              exact ⟨k1, k2, k3⟩
            refine ⟨rfl, .int (1 + i), rfl, .ref p, rfl, p, two z o, 0, .int z, rfl, rfl, k1.sqt hs (fun z => z), atI_nat (j := 0) rfl, 1 + i, z, by rw [hc], rfl, (1 + i) &&& z, 0, rfl, rfl, _, rfl, ite2 (fun ha => ?_) (fun ha => ?_)⟩
            · refine ⟨.int (1 + i), rfl, .ref p, rfl, p, two z o, 1, .int o, rfl, rfl, k1.sqt hs (fun z => z), atI_nat (j := 1) rfl, 1 + i, o, by rw [hc], rfl, .ref p, rfl, p, two z o, 1, .int o, rfl, rfl, k1.sqt hs (fun z => z), atI_nat (j := 1) rfl, (1 + i) &&& o, o, rfl, rfl, _, rfl, ite2 (fun hb => ?_) (fun hb => ?_)⟩
              · exact ⟨.int (1 + i), rfl, keep (by unfold fitB; rw [beq_iff_eq.mpr (of_decide_eq_true ha), beq_iff_eq.mpr (of_decide_eq_true hb)]; rfl)⟩
              · exact drop (by unfold fitB; rw [beq_eq_false_iff_ne.mpr (fun e => hb (decide_eq_true e)), Bool.and_false])
            · exact iteF (drop (by unfold fitB; rw [beq_eq_false_iff_ne.mpr (fun e => ha (decide_eq_true e)), Bool.false_and]))
          · obtain ⟨k8, e5', e8⟩ := h
            rw [en, show wordsP z o (most v) = wordsOf v z o from rfl] at e8
            refine ⟨.int (most v), rfl, _, _, rfl, .ref D1, rfl, D1, rfl, ⟨_, SqL.of e8⟩, ?_⟩
            refine for_list (K := K) (a := D1) (xs := nums (wordsOf v z o)) (fun i σ H' => H' = H8 ∧ ∃ y6, σ = [some (.int (v : Int)), some (.ref p), some (.int (most v : Nat)), some (.ref D0), some (.ref t), some (.ref p), y6, some (.ref D1), some (.int ((foldB (most v) ((wordsOf v z o).take i)).1 : Nat)), some (.int ((foldB (most v) ((wordsOf v z o).take i)).2 : Nat)), none]) ⟨rfl, none, rfl⟩ (fun i σ H' _ h => ?_) (fun i x σ H' hx h => ?_) (fun σ H' h => ?_)
            · rw [h.1]; exact SqL.of e8
            · obtain ⟨rfl, y6, rfl⟩ := h
              have hx' : ∃ n : Nat, (wordsOf v z o)[i]? = some n ∧ x = .int (n : Int) := by
                unfold nums at hx
                rw [List.getElem?_map] at hx
                cases hn : (wordsOf v z o)[i]? with
                | none => rw [hn] at hx; cases hx
                | some n => rw [hn] at hx; exact ⟨n, rfl, (Option.some.inj hx).symm⟩
              obtain ⟨n, hn, rfl⟩ := hx'
              have ft := fold_take (most v) _ i n hn
              refine ⟨_, rfl, .int n, rfl, _, n, rfl, rfl, _, rfl, .int n, rfl, _, n, rfl, rfl, _, _, rfl, ?_⟩
              refine ⟨rfl, some (.int n), ?_⟩
              rw [ft]
              rfl
            · obtain ⟨rfl, y6, rfl⟩ := h
              have hL : (nums (wordsOf v z o)).length = (wordsOf v z o).length := List.length_map ..
              have fl := fold_first h7 fc.hz fc.ho fc.no g0
              have hle : (foldB (most v) (wordsOf v z o)).2 < 2 ^ v := fold_le (n := v) (most v) (wordsOf v z o) (most v, 0) pow_pos' (fun x hx => by
                have hx2 := (List.mem_filter.mp (show x ∈ (List.range' 1 (most v)).filter (fitB z o) from hx)).1
                have := List.mem_range'_1.mp hx2
                omega)
              have ta : (wordsOf v z o).take (nums (wordsOf v z o)).length = wordsOf v z o := List.take_of_length_le (by rw [hL]; exact Nat.le_refl _)
              rw [ta]
              refine ⟨.int (most v), rfl, _, rfl, most v, (foldB (most v) (wordsOf v z o)).2, rfl, rfl, by omega, _, rfl, by show 2 ≤ sizeLine; decide, fun a6 h6 => ?_⟩
              have e6 : SqT K (upd H' a6 (.tup [.int ((most v - (foldB (most v) (wordsOf v z o)).2 : Nat) : Int), .int ((foldB (most v) (wordsOf v z o)).1 : Nat)])) a6 (two (first v z o).1 (first v z o).2) := by
                rw [← fl]
                exact SqT.of upd_same
              have k9 : Kept None H (upd H' a6 (.tup [.int ((most v - (foldB (most v) (wordsOf v z o)).2 : Nat) : Int), .int ((foldB (most v) (wordsOf v z o)).1 : Nat)])) := k8.new (k8.free h6)
              generalize upd H' a6 (.tup [.int ((most v - (foldB (most v) (wordsOf v z o)).2 : Nat) : Int), .int ((foldB (most v) (wordsOf v z o)).1 : Nat)]) = HH at e6 k9 ⊢
              have kk := k9
              have e5 := e6
              have ef := first_two v z o
              have fz := first_lt fc
              refine ⟨.int v, rfl, .ref p, rfl, p, v, z, o, rfl, kk.sqt hs (fun z => z), w2, gpos, fun t6 h6 => ⟨t6, dF (first v z o).1 (first v z o).2, rfl, .tup (SqT.of upd_same) (.cons (.int _) (.cons (.int _) .nil)), (dF_ok (by omega) (by omega)).1, rfl, by show 1 ≤ 100; decide, (dF_ok (by omega) (by omega)).2, .ref a6, rfl, a6, dF (first v z o).1 (first v z o).2, rfl, .tup (sqt_new e5 h6) (.cons (.int _) (.cons (.int _) .nil)), (dF_ok (by omega) (by omega)).1, rfl, by show 1 ≤ 100; decide, (dF_ok (by omega) (by omega)).2, rfl, ?_⟩⟩
              rw [decide_eq_true rfl]
              refine ⟨_, rfl, iteT ?_⟩
              have k6 : Kept None H (upd HH t6 (.tup (two (first v z o).1 (first v z o).2))) := kk.new (kk.free h6)
              refine ⟨.int v, rfl, .ref p, rfl, p, v, z, o, rfl, k6.sqt hs (fun z => z), w2, gpos, fun t7 h7 => ⟨t7, dF (first v z o).1 (first v z o).2, rfl, .tup (SqT.of upd_same) (.cons (.int _) (.cons (.int _) .nil)), (dF_ok (by omega) (by omega)).1, rfl, by show 1 ≤ 100; decide, (dF_ok (by omega) (by omega)).2, .ref a6, rfl, a6, dF (first v z o).1 (first v z o).2, rfl, .tup (sqt_new (sqt_new e5 h6) h7) (.cons (.int _) (.cons (.int _) .nil)), (dF_ok (by omega) (by omega)).1, rfl, by show 1 ≤ 100; decide, (dF_ok (by omega) (by omega)).2, rfl, ?_⟩⟩
              rw [decide_eq_true rfl]
              exact q _ (k6.new (k6.free h7))
        · have h7 : ¬ v < 7 := fun e => h7 (decide_eq_true e)
          have kk := k7
          rw [a5eq] at e5
          have ef := first_two v z o
          have fz := first_lt fc
          refine ⟨.int v, rfl, .ref p, rfl, p, v, z, o, rfl, kk.sqt hs (fun z => z), w2, gpos, fun t6 h6 => ⟨t6, dF (first v z o).1 (first v z o).2, rfl, .tup (SqT.of upd_same) (.cons (.int _) (.cons (.int _) .nil)), (dF_ok (by omega) (by omega)).1, rfl, by show 1 ≤ 100; decide, (dF_ok (by omega) (by omega)).2, .ref p, rfl, p, dF (first v z o).1 (first v z o).2, rfl, .tup (sqt_new e5 h6) (.cons (.int _) (.cons (.int _) .nil)), (dF_ok (by omega) (by omega)).1, rfl, by show 1 ≤ 100; decide, (dF_ok (by omega) (by omega)).2, rfl, ?_⟩⟩
          rw [decide_eq_true rfl]
          refine ⟨_, rfl, iteT ?_⟩
          have k6 : Kept None H (upd H6 t6 (.tup (two (first v z o).1 (first v z o).2))) := kk.new (kk.free h6)
          refine ⟨.int v, rfl, .ref p, rfl, p, v, z, o, rfl, k6.sqt hs (fun z => z), w2, gpos, fun t7 h7 => ⟨t7, dF (first v z o).1 (first v z o).2, rfl, .tup (SqT.of upd_same) (.cons (.int _) (.cons (.int _) .nil)), (dF_ok (by omega) (by omega)).1, rfl, by show 1 ≤ 100; decide, (dF_ok (by omega) (by omega)).2, .ref p, rfl, p, dF (first v z o).1 (first v z o).2, rfl, .tup (sqt_new (sqt_new e5 h6) h7) (.cons (.int _) (.cons (.int _) .nil)), (dF_ok (by omega) (by omega)).1, rfl, by show 1 ≤ 100; decide, (dF_ok (by omega) (by omega)).2, rfl, ?_⟩⟩
          rw [decide_eq_true rfl]
          exact q _ (k6.new (k6.free h7))
end
end K13

set_option Elab.async false
set_option linter.all false
set_option maxRecDepth 100000
set_option maxHeartbeats 4000000
namespace K13
open PySem PySem.Spec PyProof.Rows L2
/-! ### what is no facts -/
inductive El (A : Addr → Prop) (H : Hp) : V → Prop
  | int (i : Int) : El A H (.int i)
  | bl (b : Bool) : El A H (.bl b)
  | str (x : PySem.Str) : El A H (.str x)
  | non : El A H .non
  | lst {a : Addr} {xs : List V} : H a = some (.lst xs) → ¬ A a → El A H (.ref a)
  | tup {a : Addr} {xs : List V} : H a = some (.tup xs) → ¬ A a → El A H (.ref a)
inductive FBa (A : Addr → Prop) (H : Hp) (v : Nat) : V → Prop
  | int (i : Int) : FBa A H v (.int i)
  | bl (b : Bool) : FBa A H v (.bl b)
  | str (x : PySem.Str) : FBa A H v (.str x)
  | non : FBa A H v .non
  | lst {a : Addr} {xs : List V} : H a = some (.lst xs) → ¬ A a → FBa A H v (.ref a)
  | dK {a : Addr} {kvs : List (Key × V)} : H a = some (.dK kvs) → ¬ A a → FBa A H v (.ref a)
  | len {a : Addr} {xs : List V} : H a = some (.tup xs) → ¬ A a → xs.length ≠ 2 → FBa A H v (.ref a)
  | pair {a : Addr} {x y : V} : H a = some (.tup [x, y]) → ¬ A a → El A H x → El A H y → pairB v x y = false → FBa A H v (.ref a)
theorem El.ty {K : PySem.W.Frag} {A : Addr → Prop} {H : Hp} {x : V} (h : El A H x) : ∃ T, TyB K H x T := by
  cases h with
  | int i => exact ⟨_, .int i⟩
  | bl b => exact ⟨_, .bl b⟩
  | str x => exact ⟨_, .str x⟩
  | non => exact ⟨_, .non⟩
  | lst h _ => exact ⟨_, .lst (SqL.of h)⟩
  | tup h _ => exact ⟨_, .tup (SqT.of h)⟩
theorem FBa.fb {K : PySem.W.Frag} {A : Addr → Prop} {H : Hp} {v : Nat} {x : V} (h : FBa A H v x) : FB K H v x false := by
  cases h with
  | int i => exact .ty (.int i) (by decide)
  | bl b => exact .ty (.bl b) (by decide)
  | str x => exact .ty (.str x) (by decide)
  | non => exact .ty .non (by decide)
  | lst h _ => exact .ty (.lst (SqL.of h)) (by decide)
  | dK h _ => exact .ty (.dK h) (by decide)
  | len h _ n => exact .len (SqT.of h) n
  | pair h _ e1 e2 q =>
    obtain ⟨T, t1⟩ := e1.ty (K := K)
    obtain ⟨U, t2⟩ := e2.ty (K := K)
    rw [← q]
    exact .pair (SqT.of h) t1 t2
theorem El.new {A : Addr → Prop} {H : Hp} {x : V} {l : Addr} {o : HO} (h : El A H x) (n : H l = none) : El (fun b => A b ∨ b = l) (upd H l o) x := by
  cases h with
  | lst h a => exact .lst (by rw [upd_ne (ne_of_none h n)]; exact h) (fun z => z.elim a (ne_of_none h n))
  | tup h a => exact .tup (by rw [upd_ne (ne_of_none h n)]; exact h) (fun z => z.elim a (ne_of_none h n))
  | int i => exact .int i
  | bl b => exact .bl b
  | str x => exact .str x
  | non => exact .non
theorem El.weak {A B : Addr → Prop} {H : Hp} {x : V} (h : El A H x) (n : ∀ b, B b → A b) : El B H x := by
  cases h with
  | lst h a => exact .lst h (fun z => a (n _ z))
  | tup h a => exact .tup h (fun z => a (n _ z))
  | int i => exact .int i
  | bl b => exact .bl b
  | str x => exact .str x
  | non => exact .non
theorem FBa.new {A : Addr → Prop} {H : Hp} {v : Nat} {x : V} {l : Addr} {o : HO} (h : FBa A H v x) (n : H l = none) : FBa (fun b => A b ∨ b = l) (upd H l o) v x := by
  cases h with
  | lst h a => exact .lst (by rw [upd_ne (ne_of_none h n)]; exact h) (fun z => z.elim a (ne_of_none h n))
  | dK h a => exact .dK (by rw [upd_ne (ne_of_none h n)]; exact h) (fun z => z.elim a (ne_of_none h n))
  | len h a k => exact .len (by rw [upd_ne (ne_of_none h n)]; exact h) (fun z => z.elim a (ne_of_none h n)) k
  | pair h a e1 e2 q => exact .pair (by rw [upd_ne (ne_of_none h n)]; exact h) (fun z => z.elim a (ne_of_none h n)) (e1.new n) (e2.new n) q
  | int i => exact .int i
  | bl b => exact .bl b
  | str x => exact .str x
  | non => exact .non
theorem FBa.weak {A B : Addr → Prop} {H : Hp} {v : Nat} {x : V} (h : FBa A H v x) (n : ∀ b, B b → A b) : FBa B H v x := by
  cases h with
  | lst h a => exact .lst h (fun z => a (n _ z))
  | dK h a => exact .dK h (fun z => a (n _ z))
  | len h a k => exact .len h (fun z => a (n _ z)) k
  | pair h a e1 e2 q => exact .pair h (fun z => a (n _ z)) (e1.weak n) (e2.weak n) q
  | int i => exact .int i
  | bl b => exact .bl b
  | str x => exact .str x
  | non => exact .non
theorem El.kept {A D : Addr → Prop} {H H' : Hp} {x : V} (h : El A H x) (k : Kept D H H') (n : ∀ b, D b → A b) : El A H' x := by
  cases h with
  | lst h a => exact .lst (k.lst h (fun z => a (n _ z))) a
  | tup h a => exact .tup (k.tup h (fun z => a (n _ z))) a
  | int i => exact .int i
  | bl b => exact .bl b
  | str x => exact .str x
  | non => exact .non
theorem FBa.kept {A D : Addr → Prop} {H H' : Hp} {v : Nat} {x : V} (h : FBa A H v x) (k : Kept D H H') (n : ∀ b, D b → A b) : FBa A H' v x := by
  cases h with
  | lst h a => exact .lst (k.lst h (fun z => a (n _ z))) a
  | dK h a => exact .dK (k.dK h (fun z => a (n _ z))) a
  | len h a q => exact .len (k.tup h (fun z => a (n _ z))) a q
  | pair h a e1 e2 q => exact .pair (k.tup h (fun z => a (n _ z))) a (e1.kept k n) (e2.kept k n) q
  | int i => exact .int i
  | bl b => exact .bl b
  | str x => exact .str x
  | non => exact .non
abbrev Alls (A : Addr → Prop) (H : Hp) (v : Nat) (xs : List V) : Prop := ∀ x ∈ xs, FBa A H v x
theorem Alls.new {A : Addr → Prop} {H : Hp} {v : Nat} {xs : List V} {l : Addr} {o : HO} (h : Alls A H v xs) (n : H l = none) : Alls A (upd H l o) v xs := fun x hx => ((h x hx).new n).weak fun _ z => .inl z
theorem Alls.newL {A : Addr → Prop} {H : Hp} {v : Nat} {xs : List V} {l : Addr} {o : HO} (h : Alls A H v xs) (n : H l = none) : Alls (fun b => A b ∨ b = l) (upd H l o) v xs := fun x hx => (h x hx).new n
theorem Alls.snoc {A : Addr → Prop} {H : Hp} {v : Nat} {xs : List V} {x : V} (h : Alls A H v xs) (hx : FBa A H v x) : Alls A H v (xs ++ [x]) := fun y hy => by
  rcases List.mem_append.mp hy with z | z
  · exact h y z
  · rw [List.mem_singleton.mp z]; exact hx
theorem Alls.kept {A D : Addr → Prop} {H H' : Hp} {v : Nat} {xs : List V} (h : Alls A H v xs) (k : Kept D H H') (n : ∀ b, D b → A b) : Alls A H' v xs := fun x hx => (h x hx).kept k n
theorem Alls.upd {A : Addr → Prop} {H : Hp} {v : Nat} {xs : List V} {l : Addr} {o : HO} (h : Alls A H v xs) (n : A l) : Alls A (L2.upd H l o) v xs := h.kept (D := fun b => b = l) (Kept.refl.upd rfl) (fun b z => by rw [z]; exact n)
theorem pairB_l {v : Nat} {x y : V} (h : wholeB x 0 (most v) = false) : pairB v x y = false := by unfold pairB; rw [h, Bool.false_and]
theorem pairB_r {v : Nat} {x y : V} (h : wholeB y 0 (most v) = false) : pairB v x y = false := by unfold pairB; rw [h, Bool.false_and, Bool.and_false]
theorem pairB_z {v : Nat} {x y : V} (h : zeroB x y = false) : pairB v x y = false := by unfold pairB; rw [h, Bool.and_false, Bool.and_false]
theorem whole_hi {i m : Int} (h : m < i) : wholeB (.int i) 0 m = false := by
  show (decide (0 ≤ i) && decide (i ≤ m)) = false
  rw [decide_eq_false (show ¬ i ≤ m by omega), Bool.and_false]
theorem whole_lo {i m : Int} (h : i < 0) : wholeB (.int i) 0 m = false := by
  show (decide (0 ≤ i) && decide (i ≤ m)) = false
  rw [decide_eq_false (show ¬ 0 ≤ i by omega), Bool.false_and]
theorem both_bit (z o k : Nat) : zeroB (.int ((z ||| 2 ^ k : Nat) : Int)) (.int ((o ||| 2 ^ k : Nat) : Int)) = false := by
  show decide (Builtin.bitAnd _ _ = 0) = false
  rw [bA]
  refine decide_eq_false fun e => ?_
  have e' : (z ||| 2 ^ k) &&& (o ||| 2 ^ k) = 0 := by exact_mod_cast e
  have t := congrArg (fun n => Nat.testBit n k) e'
  simp [Nat.testBit_and, Nat.testBit_or, Nat.testBit_two_pow_self] at t
theorem all_bits {v : Nat} (h : 1 ≤ v) : zeroB (.int ((2 ^ v - 1 : Nat) : Int)) (.int ((2 ^ v - 1 : Nat) : Int)) = false := by
  show decide (Builtin.bitAnd _ _ = 0) = false
  rw [bA, Nat.and_self]
  have : 2 ^ 1 ≤ 2 ^ v := Nat.pow_le_pow_right (by decide) h
  exact decide_eq_false (by omega)
end K13

set_option Elab.async false
set_option linter.all false
set_option maxRecDepth 100000
set_option maxHeartbeats 8000000
namespace K13
open PySem PySem.Spec PyProof.Rows L2
structure Sd (H0 H : Hp) (d c p : Addr) (ns : List Int) (n : Nat) (A : Addr → Prop) (v z o : Nat) (xs : List V) : Prop where
  k : Kept (At d) H0 H
  D : Dr H d c ns n
  al : Alls A H v xs
  ad : ∀ b, b = d → A b
  ac : ¬ A c
  live : ∀ b, A b → H b ≠ none
  pf : H p = some (.tup (two z o))
  np : ¬ A p
section
variable {H0 H : Hp} {d c p t : Addr} {ns : List Int} {n v z o : Nat} {A : Addr → Prop} {xs : List V} {u : HO}
theorem Sd.fr (s : Sd H0 H d c p ns n A v z o xs) (h : H t = none) : H0 t = none := At.free s.k s.D h
theorem Sd.nA (s : Sd H0 H d c p ns n A v z o xs) (h : H t = none) : ¬ A t := fun a => s.live t a h
theorem Sd.flat (s : Sd H0 H d c p ns n A v z o xs) {x : V} (f : FBa A H v x) : Sd H0 H d c p ns n A v z o (xs ++ [x]) := ⟨s.k, s.D, s.al.snoc f, s.ad, s.ac, s.live, s.pf, s.np⟩
theorem Sd.new (s : Sd H0 H d c p ns n A v z o xs) (h : H t = none) : Sd H0 (upd H t u) d c p ns n A v z o xs := by
  refine ⟨s.k.new (s.fr h), s.D.new h, s.al.new h, s.ad, s.ac, fun b a => ?_, by rw [upd_ne (ne_of_none s.pf h)]; exact s.pf, s.np⟩
  rw [upd_ne (fun e => s.live b a (by rw [e]; exact h))]
  exact s.live b a
theorem Sd.add (s : Sd H0 H d c p ns n A v z o xs) (h : H t = none) {x : V} (f : FBa A (upd H t u) v x) : Sd H0 (upd H t u) d c p ns n A v z o (xs ++ [x]) :=
  (s.new (u := u) h).flat f
theorem Sd.pair (s : Sd H0 H d c p ns n A v z o xs) (h : H t = none) {x y : V} (e1 : El A (upd H t (.tup [x, y])) x) (e2 : El A (upd H t (.tup [x, y])) y) (q : pairB v x y = false) : Sd H0 (upd H t (.tup [x, y])) d c p ns n A v z o (xs ++ [.ref t]) :=
  s.add h (.pair upd_same (s.nA h) e1 e2 q)
theorem Sd.newL (s : Sd H0 H d c p ns n A v z o xs) (h : H t = none) : Sd H0 (upd H t u) d c p ns n (fun b => A b ∨ b = t) v z o xs := by
  have s' := s.new (u := u) h
  refine ⟨s'.k, s'.D, s.al.newL h, fun b e => .inl (s.ad b e), fun a => a.elim s.ac (ne_of_none s.D.cs h), fun b a => ?_, s'.pf, fun a => a.elim s.np (ne_of_none s.pf h)⟩
  rcases a with a | rfl
  · exact s'.live b a
  · rw [upd_same]; exact fun z => nomatch z
theorem Sd.updL (s : Sd H0 H d c p ns n A v z o xs) (a : A t) (nd : t ≠ d) (h0 : H0 t = none) : Sd H0 (upd H t u) d c p ns n A v z o xs := by
  have nc : t ≠ c := fun e => s.ac (by rw [← e]; exact a)
  have npp : p ≠ t := fun e => s.np (by rw [e]; exact a)
  refine ⟨s.k.new h0, ?_, s.al.upd a, s.ad, s.ac, fun b ab => ?_, by rw [upd_ne npp]; exact s.pf, s.np⟩
  · obtain ⟨a1, l1, u1, h1, r⟩ := s.D.at_
    exact ⟨⟨a1, l1, u1, by rw [upd_ne (Ne.symm nd)]; exact h1, r⟩, by rw [upd_ne (Ne.symm nc)]; exact s.D.cs, s.D.ne⟩
  · by_cases e : b = t
    · rw [e, upd_same]; exact fun z => nomatch z
    · rw [upd_ne e]; exact s.live b ab
theorem Sd.draw {H' : Hp} {m : Nat} (s : Sd H0 H d c p ns n A v z o xs) (k : Kept (At d) H H') (D : Dr H' d c ns m) : Sd H0 H' d c p ns m A v z o xs := by
  refine ⟨s.k.trans k, D, s.al.kept k s.ad, s.ad, s.ac, fun b a => ?_, k.tup s.pf (fun e => s.np (s.ad _ e)), s.np⟩
  by_cases e : b = d
  · obtain ⟨a1, l1, u1, h1, _⟩ := D.at_
    rw [e, h1]; exact fun z => nomatch z
  · cases hb : H b with
    | none => exact absurd hb (s.live b a)
    | some o1 =>
      obtain ⟨u1, h1⟩ := ko_some (k b o1 hb e)
      rw [h1]; exact fun z => nomatch z
end
abbrev sLOdd : Stmt := top 14
theorem scLOdd : FnScope ["draw", "wide", "facts", "top", "side", "bit", "things"] ["draw", "wide", "facts"] (defScope sLOdd) := ⟨rfl, rfl, rfl, by decide +kernel, rfl, by decide +kernel, by decide +kernel⟩
def spOdd (K : PySem.W.Frag) : Sp := fun vs H Q _ => ∃ (d c p : Addr) (ns : List Int) (n v z o : Nat), vs = [.ref d, .int (v : Int), .ref p] ∧ Dr H d c ns n ∧ n ≤ 100000 ∧ Fc v z o ∧ H p = some (.tup (two z o)) ∧
  ∀ (x : V) H', Kept (At d) H H' → Dr H' d c ns (n + 3) → FB K H' v x false → Q x H'
section
variable {P : Program} {w : World} {K : PySem.W.Frag} {mg : PySem.Str → Option Value} {base : Heap} {f fN : Addr} {fd fdN : FuncData}
theorem ok_lodd (F : FnP K "_law_odd" sLOdd f fd) (GLNext : FnOk P w K mg base CX0 2 fN fdN ["draw", "many"] spNext) (bLNext : Binds K fdN ["draw", "many"] []) (kLNext : PySem.W.keepIn K (.ref fN) = true) (gLNext : mg "_law_next" = some (.ref fN)) (m_len : mg "len" = none) :
    FnOk P w K mg base CX0 3 f fd ["draw", "wide", "facts"] (spOdd K) := by
  refine F.ok (k := 2) scLOdd (fun vs H Q E h => ?_) (fun cdv A outer s H vs Q E hr h => ?_)
  · obtain ⟨d, c, p, ns, n, v, z, o, rfl, _⟩ := h
    rfl
  · obtain ⟨d, c, p, ns, n, v, z, o, rfl, D, hn, fc, hp, q⟩ := h
    have w1 := fc.w1
    have w2 := fc.w2
    have pb := pow_bound w2
    have pp := pow_pos' (w := v)
    have hm1 : most v + 1 = 2 ^ v := by unfold most; omega
    have htop : ((most v : Nat) : Int) < ((2 ^ v : Nat) : Int) := by omega
    refine ⟨_, PSs.nox (pss_cons (ps_par (i := 3) (j := 4) (by rfl) scLOdd.nd rfl rfl (by decide) rfl rfl (pa_cons (pe_op n_bit pe_int (pv 1)) (pa_cons (pe_call GLNext hr (by rfl) gLNext kLNext bLNext .nil pass0 (pa_cons (pv 0) (pa_cons pe_int pa_nil))) pa_nil)) (by rfl))
    (pss_cons (ps_set (i := 5) scLOdd.nd rfl (Or.inl rfl) (pe_op n_bit pe_int (pe_call GLNext hr (by rfl) gLNext kLNext bLNext .nil pass0 (pa_cons (pv 0) (pa_cons (pv 1) pa_nil)))))
    (pss_cons (ps_set (i := 6) scLOdd.nd rfl (Or.inl rfl) (pe_lst (pa_cons (pe_tup (pa_cons (pe_op n_or (pe_ix ix_tup (pv 2) pe_int (fun _ _ => rfl)) (pv 5)) (pa_cons (pe_op n_or (pe_ix ix_tup (pv 2) pe_int (fun _ _ => rfl)) (pv 5)) pa_nil))) (pa_cons (pe_tup (pa_cons (pv 3) (pa_cons pe_int pa_nil))) (pa_cons (pe_tup (pa_cons pe_int (pa_cons (pv 3) pa_nil))) (pa_cons (pe_tup (pa_cons (pe_un un_neg pe_int) (pa_cons pe_int pa_nil))) (pa_cons (pe_tup (pa_cons (pe_ix ix_tup (pv 2) pe_int (fun _ _ => rfl)) (pa_cons (pe_op op_sub (pe_un un_neg pe_int) (pe_ix ix_tup (pv 2) pe_int (fun _ _ => rfl))) pa_nil))) pa_nil)))))))
    (pss_cons (ps_expr (pe_bm PySem.F.plainAttrs_list PySem.F.slot_list_append PySem.F.type_list_append mt_append (pv 6) (pa_cons (pe_tup (pa_cons (pe_op n_sub (pv 3) pe_int) (pa_cons (pe_op n_sub (pv 3) pe_int) pa_nil))) pa_nil)))
    (pss_cons (ps_set (i := 6) scLOdd.nd rfl (Or.inl rfl) (pe_op op_cat (pv 6) (pe_lst (pa_cons (pe_tup (pa_cons pe_bl (pa_cons pe_int pa_nil))) (pa_cons (pe_tup (pa_cons pe_int (pa_cons pe_bl pa_nil))) (pa_cons (pe_tup (pa_cons pe_bl (pa_cons pe_int pa_nil))) (pa_cons (pe_tup (pa_cons pe_int (pa_cons pe_bl pa_nil))) (pa_cons (pe_tup (pa_cons pe_str (pa_cons pe_int pa_nil))) (pa_cons (pe_tup (pa_cons pe_int (pa_cons pe_non pa_nil))) (pa_cons (pe_lst (pa_cons (pe_ix ix_tup (pv 2) pe_int (fun _ _ => rfl)) (pa_cons (pe_ix ix_tup (pv 2) pe_int (fun _ _ => rfl)) pa_nil))) pa_nil))))))))))
    (pss_cons (ps_set (i := 6) scLOdd.nd rfl (Or.inl rfl) (pe_op op_cat (pv 6) (pe_lst (pa_cons (pe_op op_catT (pv 2) (pe_tup (pa_cons pe_int pa_nil))) (pa_cons (pe_slice sl_tup (pv 2) po_none (po_some pe_int)) (pa_cons (pe_tup pa_nil) (pa_cons pe_non (pa_cons pe_int (pa_cons pe_bl (pa_cons pe_str (pa_cons (pe_disp (pps_cons pe_int pe_int pps_nil) (by rfl) (by rfl) (fun z => by cases z) (by decide)) (pa_cons (pe_tup (pa_cons (pv 2) (pa_cons (pv 2) pa_nil))) (pa_cons (pe_tup (pa_cons (pe_lst (pa_cons pe_int pa_nil)) (pa_cons pe_int pa_nil))) pa_nil)))))))))))))
    (pss_cons (ps_expr (pe_bm PySem.F.plainAttrs_list PySem.F.slot_list_append PySem.F.type_list_append mt_append (pv 6) (pa_cons (pe_tup (pa_cons (pe_op op_add (pe_ix ix_tup (pv 2) (pv 4) (fun _ _ => rfl)) (pe_op op_mul (pv 3) (pe_op op_pow pe_int pe_int))) (pa_cons pe_int pa_nil))) pa_nil)))
    (pss_one (ps_ret (pe_ix ix_list (pv 6) (pe_call GLNext hr (by rfl) gLNext kLNext bLNext .nil pass0 (pa_cons (pv 0) (pa_cons (pe_callB call_len_seq (by rfl) m_len PySem.boot_len (pa_cons (pv 6) pa_nil)) pa_nil))) (fun _ _ => rfl))))))))))), ?_⟩
    refine ⟨.int v, rfl, v, rfl, rfl, by omega, .ref d, rfl, d, c, ns, n, 2, rfl, D, by omega, by omega, by omega, fun side H1 a0 a1 k1 D1 => ?_⟩
    obtain ⟨side, rfl⟩ := Int.eq_ofNat_of_zero_le a0
    refine ⟨_, _, rfl, .ref d, rfl, .int v, rfl, d, c, ns, n + 1, v, rfl, D1, by omega, by omega, by omega, fun at_ H2 b0 b1 k2 D2 => ?_⟩
    obtain ⟨at_, rfl⟩ := Int.eq_ofNat_of_zero_le b0
    have kk := k1.trans k2
    have ndp : ¬ p = d := fun e => by
      obtain ⟨a1, l1, u1, h1, _⟩ := D.at_
      rw [e, h1] at hp
      cases hp
    have s0 : Sd H H2 d c p ns (n + 1 + 1) (At d) v z o [] := ⟨kk, D2, fun x hx => (by cases hx), fun _ e => e, D.dc, fun b e => (by
      obtain ⟨a1, l1, u1, h1, _⟩ := D2.at_
      rw [e, h1]; exact fun z => by cases z), kk.tup hp ndp, ndp⟩
    obtain ⟨fs, hat⟩ : ∃ fs : Nat, atI (two z o) (side : Int) = some (.int (fs : Int)) := by
      rcases (show side = 0 ∨ side = 1 by omega) with rfl | rfl
      · exact ⟨z, atI_nat (j := 0) rfl⟩
      · exact ⟨o, atI_nat (j := 1) rfl⟩
    have hbig : ((most v : Nat) : Int) < (fs : Int) + ((2 ^ v : Nat) : Int) * 10 ^ (20 : Int).toNat := by
      rw [show (10 : Int) ^ (20 : Int).toNat = 100000000000000000000 by decide]
      omega
    refine ⟨at_, rfl, rfl, by omega, ?_⟩
    refine ⟨.ref p, rfl, p, two z o, 0, .int z, rfl, rfl, SqT.of s0.pf, atI_nat (j := 0) rfl, .int ((2 ^ at_ : Nat) : Int), rfl, z, 2 ^ at_, rfl, rfl, .ref p, rfl, p, two z o, 1, .int o, rfl, rfl, SqT.of s0.pf, atI_nat (j := 1) rfl, .int ((2 ^ at_ : Nat) : Int), rfl, o, 2 ^ at_, rfl, rfl, by show 2 ≤ sizeLine; decide, fun t1 n1 => ?_⟩
    have s1 : Sd H (upd H2 t1 (.tup [.int ((z ||| 2 ^ at_ : Nat) : Int), .int ((o ||| 2 ^ at_ : Nat) : Int)])) d c p ns (n + 1 + 1) (At d) v z o [.ref t1] := s0.pair n1 (.int _) (.int _) (pairB_z (both_bit z o at_))
    have new1 : upd H2 t1 (.tup [.int ((z ||| 2 ^ at_ : Nat) : Int), .int ((o ||| 2 ^ at_ : Nat) : Int)]) t1 = some (.tup [.int ((z ||| 2 ^ at_ : Nat) : Int), .int ((o ||| 2 ^ at_ : Nat) : Int)]) := upd_same
    generalize upd H2 t1 (.tup [.int ((z ||| 2 ^ at_ : Nat) : Int), .int ((o ||| 2 ^ at_ : Nat) : Int)]) = G1 at s1 new1 ⊢
    refine ⟨.int ((2 ^ v : Nat) : Int), rfl, by show 2 ≤ sizeLine; decide, fun t2 n2 => ?_⟩
    have s2 : Sd H (upd G1 t2 (.tup [.int ((2 ^ v : Nat) : Int), .int 0])) d c p ns (n + 1 + 1) (At d) v z o [.ref t1, .ref t2] := s1.pair n2 (.int _) (.int _) (pairB_l (whole_hi htop))
    have new2 : upd G1 t2 (.tup [.int ((2 ^ v : Nat) : Int), .int 0]) t2 = some (.tup [.int ((2 ^ v : Nat) : Int), .int 0]) := upd_same
    generalize upd G1 t2 (.tup [.int ((2 ^ v : Nat) : Int), .int 0]) = G2 at s2 new2 ⊢
    refine ⟨.int ((2 ^ v : Nat) : Int), rfl, by show 2 ≤ sizeLine; decide, fun t3 n3 => ?_⟩
    have s3 : Sd H (upd G2 t3 (.tup [.int 0, .int ((2 ^ v : Nat) : Int)])) d c p ns (n + 1 + 1) (At d) v z o [.ref t1, .ref t2, .ref t3] := s2.pair n3 (.int _) (.int _) (pairB_r (whole_hi htop))
    have new3 : upd G2 t3 (.tup [.int 0, .int ((2 ^ v : Nat) : Int)]) t3 = some (.tup [.int 0, .int ((2 ^ v : Nat) : Int)]) := upd_same
    generalize upd G2 t3 (.tup [.int 0, .int ((2 ^ v : Nat) : Int)]) = G3 at s3 new3 ⊢
    refine ⟨1, rfl, by show 2 ≤ sizeLine; decide, fun t4 n4 => ?_⟩
    have s4 : Sd H (upd G3 t4 (.tup [.int (-1), .int 0])) d c p ns (n + 1 + 1) (At d) v z o [.ref t1, .ref t2, .ref t3, .ref t4] := s3.pair n4 (.int _) (.int _) (pairB_l (whole_lo (by decide)))
    have new4 : upd G3 t4 (.tup [.int (-1), .int 0]) t4 = some (.tup [.int (-1), .int 0]) := upd_same
    generalize upd G3 t4 (.tup [.int (-1), .int 0]) = G4 at s4 new4 ⊢
    refine ⟨.ref p, rfl, p, two z o, 0, .int z, rfl, rfl, SqT.of s4.pf, atI_nat (j := 0) rfl, 1, rfl, .ref p, rfl, p, two z o, 1, .int o, rfl, rfl, SqT.of s4.pf, atI_nat (j := 1) rfl, -1, (o : Int), rfl, rfl, by show 2 ≤ sizeLine; decide, fun t5 n5 => ?_⟩
    have s5 : Sd H (upd G4 t5 (.tup [.int (z : Int), .int (-1 - (o : Int))])) d c p ns (n + 1 + 1) (At d) v z o [.ref t1, .ref t2, .ref t3, .ref t4, .ref t5] := s4.pair n5 (.int _) (.int _) (pairB_r (whole_lo (by omega)))
    have new5 : upd G4 t5 (.tup [.int (z : Int), .int (-1 - (o : Int))]) t5 = some (.tup [.int (z : Int), .int (-1 - (o : Int))]) := upd_same
    generalize upd G4 t5 (.tup [.int (z : Int), .int (-1 - (o : Int))]) = G5 at s5 new5 ⊢
    refine ⟨by show 5 ≤ sizeLine; decide, fun t6 n6 => ?_⟩
    have s6 : Sd H (upd G5 t6 (.lst [.ref t1, .ref t2, .ref t3, .ref t4, .ref t5])) d c p ns (n + 1 + 1) (fun b => (At d) b ∨ b = t6) v z o [.ref t1, .ref t2, .ref t3, .ref t4, .ref t5] := s5.newL n6
    have new6 : upd G5 t6 (.lst [.ref t1, .ref t2, .ref t3, .ref t4, .ref t5]) t6 = some (.lst [.ref t1, .ref t2, .ref t3, .ref t4, .ref t5]) := upd_same
    generalize upd G5 t6 (.lst [.ref t1, .ref t2, .ref t3, .ref t4, .ref t5]) = G6 at s6 new6 ⊢
    have n0t6 : H t6 = none := s5.fr n6
    have ndt6 : t6 ≠ d := fun e => s5.nA n6 (s5.ad _ e)
    -- things.append
    have eL := new6
    refine ⟨.ref t6, rfl, .inl ⟨rfl, _, SqL.of eL⟩, .int ((2 ^ v : Nat) : Int), rfl, 2 ^ v, 1, rfl, rfl, pp, .int ((2 ^ v : Nat) : Int), rfl, 2 ^ v, 1, rfl, rfl, pp, by show 2 ≤ sizeLine; decide, fun t7 n7 => ?_⟩
    have s7 : Sd H (upd G6 t7 (.tup [.int ((2 ^ v - 1 : Nat) : Int), .int ((2 ^ v - 1 : Nat) : Int)])) d c p ns (n + 1 + 1) (fun b => (At d) b ∨ b = t6) v z o [.ref t1, .ref t2, .ref t3, .ref t4, .ref t5, .ref t7] := s6.pair n7 (.int _) (.int _) (pairB_z (all_bits fc.w1))
    have eL : upd G6 t7 (.tup [.int ((2 ^ v - 1 : Nat) : Int), .int ((2 ^ v - 1 : Nat) : Int)]) t6 = some (.lst [.ref t1, .ref t2, .ref t3, .ref t4, .ref t5]) := by rw [upd_ne (ne_of_none eL n7)]; exact eL
    have new7 : upd G6 t7 (.tup [.int ((2 ^ v - 1 : Nat) : Int), .int ((2 ^ v - 1 : Nat) : Int)]) t7 = some (.tup [.int ((2 ^ v - 1 : Nat) : Int), .int ((2 ^ v - 1 : Nat) : Int)]) := upd_same
    generalize upd G6 t7 (.tup [.int ((2 ^ v - 1 : Nat) : Int), .int ((2 ^ v - 1 : Nat) : Int)]) = G7 at s7 new7 eL ⊢
    refine ⟨t6, _, _, rfl, rfl, eL, by show 5 < sizeLine; decide, ?_⟩
    have s8 : Sd H (upd G7 t6 (.lst ([.ref t1, .ref t2, .ref t3, .ref t4, .ref t5] ++ [.ref t7]))) d c p ns (n + 1 + 1) (fun b => (At d) b ∨ b = t6) v z o [.ref t1, .ref t2, .ref t3, .ref t4, .ref t5, .ref t7] := s7.updL (.inr rfl) ndt6 n0t6
    have eL : upd G7 t6 (.lst ([.ref t1, .ref t2, .ref t3, .ref t4, .ref t5] ++ [.ref t7])) t6 = some (.lst [.ref t1, .ref t2, .ref t3, .ref t4, .ref t5, .ref t7]) := upd_same
    generalize upd G7 t6 (.lst ([.ref t1, .ref t2, .ref t3, .ref t4, .ref t5] ++ [.ref t7])) = G8 at s8 eL ⊢
    -- things + [..]
    refine ⟨.ref t6, rfl, by show 2 ≤ sizeLine; decide, fun t9 n9 => ?_⟩
    have s9 : Sd H (upd G8 t9 (.tup [.bl true, .int 0])) d c p ns (n + 1 + 1) (fun b => (At d) b ∨ b = t6) v z o [.ref t1, .ref t2, .ref t3, .ref t4, .ref t5, .ref t7, .ref t9] := s8.pair n9 (.bl _) (.int _) (pairB_l rfl)
    have eL : upd G8 t9 (.tup [.bl true, .int 0]) t6 = some (.lst [.ref t1, .ref t2, .ref t3, .ref t4, .ref t5, .ref t7]) := by rw [upd_ne (ne_of_none eL n9)]; exact eL
    have new9 : upd G8 t9 (.tup [.bl true, .int 0]) t9 = some (.tup [.bl true, .int 0]) := upd_same
    generalize upd G8 t9 (.tup [.bl true, .int 0]) = G9 at s9 new9 eL ⊢
    refine ⟨by show 2 ≤ sizeLine; decide, fun t10 n10 => ?_⟩
    have s10 : Sd H (upd G9 t10 (.tup [.int 0, .bl true])) d c p ns (n + 1 + 1) (fun b => (At d) b ∨ b = t6) v z o [.ref t1, .ref t2, .ref t3, .ref t4, .ref t5, .ref t7, .ref t9, .ref t10] := s9.pair n10 (.int _) (.bl _) (pairB_r rfl)
    have eL : upd G9 t10 (.tup [.int 0, .bl true]) t6 = some (.lst [.ref t1, .ref t2, .ref t3, .ref t4, .ref t5, .ref t7]) := by rw [upd_ne (ne_of_none eL n10)]; exact eL
    have new10 : upd G9 t10 (.tup [.int 0, .bl true]) t10 = some (.tup [.int 0, .bl true]) := upd_same
    generalize upd G9 t10 (.tup [.int 0, .bl true]) = G10 at s10 new10 eL ⊢
    refine ⟨by show 2 ≤ sizeLine; decide, fun t11 n11 => ?_⟩
    have s11 : Sd H (upd G10 t11 (.tup [.bl false, .int 0])) d c p ns (n + 1 + 1) (fun b => (At d) b ∨ b = t6) v z o [.ref t1, .ref t2, .ref t3, .ref t4, .ref t5, .ref t7, .ref t9, .ref t10, .ref t11] := s10.pair n11 (.bl _) (.int _) (pairB_l rfl)
    have eL : upd G10 t11 (.tup [.bl false, .int 0]) t6 = some (.lst [.ref t1, .ref t2, .ref t3, .ref t4, .ref t5, .ref t7]) := by rw [upd_ne (ne_of_none eL n11)]; exact eL
    have new11 : upd G10 t11 (.tup [.bl false, .int 0]) t11 = some (.tup [.bl false, .int 0]) := upd_same
    generalize upd G10 t11 (.tup [.bl false, .int 0]) = G11 at s11 new11 eL ⊢
    refine ⟨by show 2 ≤ sizeLine; decide, fun t12 n12 => ?_⟩
    have s12 : Sd H (upd G11 t12 (.tup [.int 0, .bl false])) d c p ns (n + 1 + 1) (fun b => (At d) b ∨ b = t6) v z o [.ref t1, .ref t2, .ref t3, .ref t4, .ref t5, .ref t7, .ref t9, .ref t10, .ref t11, .ref t12] := s11.pair n12 (.int _) (.bl _) (pairB_r rfl)
    have eL : upd G11 t12 (.tup [.int 0, .bl false]) t6 = some (.lst [.ref t1, .ref t2, .ref t3, .ref t4, .ref t5, .ref t7]) := by rw [upd_ne (ne_of_none eL n12)]; exact eL
    have new12 : upd G11 t12 (.tup [.int 0, .bl false]) t12 = some (.tup [.int 0, .bl false]) := upd_same
    generalize upd G11 t12 (.tup [.int 0, .bl false]) = G12 at s12 new12 eL ⊢
    refine ⟨by show 2 ≤ sizeLine; decide, fun t13 n13 => ?_⟩
    have s13 : Sd H (upd G12 t13 (.tup [.str "0", .int 0])) d c p ns (n + 1 + 1) (fun b => (At d) b ∨ b = t6) v z o [.ref t1, .ref t2, .ref t3, .ref t4, .ref t5, .ref t7, .ref t9, .ref t10, .ref t11, .ref t12, .ref t13] := s12.pair n13 (.str _) (.int _) (pairB_l rfl)
    have eL : upd G12 t13 (.tup [.str "0", .int 0]) t6 = some (.lst [.ref t1, .ref t2, .ref t3, .ref t4, .ref t5, .ref t7]) := by rw [upd_ne (ne_of_none eL n13)]; exact eL
    have new13 : upd G12 t13 (.tup [.str "0", .int 0]) t13 = some (.tup [.str "0", .int 0]) := upd_same
    generalize upd G12 t13 (.tup [.str "0", .int 0]) = G13 at s13 new13 eL ⊢
    refine ⟨by show 2 ≤ sizeLine; decide, fun t14 n14 => ?_⟩
    have s14 : Sd H (upd G13 t14 (.tup [.int 0, .non])) d c p ns (n + 1 + 1) (fun b => (At d) b ∨ b = t6) v z o [.ref t1, .ref t2, .ref t3, .ref t4, .ref t5, .ref t7, .ref t9, .ref t10, .ref t11, .ref t12, .ref t13, .ref t14] := s13.pair n14 (.int _) (.non) (pairB_r rfl)
    have eL : upd G13 t14 (.tup [.int 0, .non]) t6 = some (.lst [.ref t1, .ref t2, .ref t3, .ref t4, .ref t5, .ref t7]) := by rw [upd_ne (ne_of_none eL n14)]; exact eL
    have new14 : upd G13 t14 (.tup [.int 0, .non]) t14 = some (.tup [.int 0, .non]) := upd_same
    generalize upd G13 t14 (.tup [.int 0, .non]) = G14 at s14 new14 eL ⊢
    refine ⟨.ref p, rfl, p, two z o, 0, .int z, rfl, rfl, SqT.of s14.pf, atI_nat (j := 0) rfl, .ref p, rfl, p, two z o, 1, .int o, rfl, rfl, SqT.of s14.pf, atI_nat (j := 1) rfl, by show 2 ≤ sizeLine; decide, fun t15 n15 => ?_⟩
    have s15 : Sd H (upd G14 t15 (.lst [.int (z : Int), .int (o : Int)])) d c p ns (n + 1 + 1) (fun b => (At d) b ∨ b = t6) v z o [.ref t1, .ref t2, .ref t3, .ref t4, .ref t5, .ref t7, .ref t9, .ref t10, .ref t11, .ref t12, .ref t13, .ref t14, .ref t15] := s14.add n15 (.lst upd_same (s14.nA n15))
    have eL : upd G14 t15 (.lst [.int (z : Int), .int (o : Int)]) t6 = some (.lst [.ref t1, .ref t2, .ref t3, .ref t4, .ref t5, .ref t7]) := by rw [upd_ne (ne_of_none eL n15)]; exact eL
    have new15 : upd G14 t15 (.lst [.int (z : Int), .int (o : Int)]) t15 = some (.lst [.int (z : Int), .int (o : Int)]) := upd_same
    generalize upd G14 t15 (.lst [.int (z : Int), .int (o : Int)]) = G15 at s15 new15 eL ⊢
    refine ⟨by show 7 ≤ sizeLine; decide, fun t16 n16 => ?_⟩
    have s16 : Sd H (upd G15 t16 (.lst [.ref t9, .ref t10, .ref t11, .ref t12, .ref t13, .ref t14, .ref t15])) d c p ns (n + 1 + 1) (fun b => (At d) b ∨ b = t6) v z o [.ref t1, .ref t2, .ref t3, .ref t4, .ref t5, .ref t7, .ref t9, .ref t10, .ref t11, .ref t12, .ref t13, .ref t14, .ref t15] := s15.new n16
    have eL : upd G15 t16 (.lst [.ref t9, .ref t10, .ref t11, .ref t12, .ref t13, .ref t14, .ref t15]) t6 = some (.lst [.ref t1, .ref t2, .ref t3, .ref t4, .ref t5, .ref t7]) := by rw [upd_ne (ne_of_none eL n16)]; exact eL
    have new16 : upd G15 t16 (.lst [.ref t9, .ref t10, .ref t11, .ref t12, .ref t13, .ref t14, .ref t15]) t16 = some (.lst [.ref t9, .ref t10, .ref t11, .ref t12, .ref t13, .ref t14, .ref t15]) := upd_same
    generalize upd G15 t16 (.lst [.ref t9, .ref t10, .ref t11, .ref t12, .ref t13, .ref t14, .ref t15]) = G16 at s16 new16 eL ⊢
    have eB := new16
    refine ⟨t6, t16, _, _, rfl, rfl, eL, eB, by show 13 ≤ sizeLine; decide, fun t17 n17 => ?_⟩
    have s17 : Sd H (upd G16 t17 (.lst ([.ref t1, .ref t2, .ref t3, .ref t4, .ref t5, .ref t7] ++ [.ref t9, .ref t10, .ref t11, .ref t12, .ref t13, .ref t14, .ref t15]))) d c p ns (n + 1 + 1) (fun b => (fun b => (At d) b ∨ b = t6) b ∨ b = t17) v z o [.ref t1, .ref t2, .ref t3, .ref t4, .ref t5, .ref t7, .ref t9, .ref t10, .ref t11, .ref t12, .ref t13, .ref t14, .ref t15] := s16.newL n17
    have new17 : upd G16 t17 (.lst ([.ref t1, .ref t2, .ref t3, .ref t4, .ref t5, .ref t7] ++ [.ref t9, .ref t10, .ref t11, .ref t12, .ref t13, .ref t14, .ref t15])) t17 = some (.lst ([.ref t1, .ref t2, .ref t3, .ref t4, .ref t5, .ref t7] ++ [.ref t9, .ref t10, .ref t11, .ref t12, .ref t13, .ref t14, .ref t15])) := upd_same
    generalize upd G16 t17 (.lst ([.ref t1, .ref t2, .ref t3, .ref t4, .ref t5, .ref t7] ++ [.ref t9, .ref t10, .ref t11, .ref t12, .ref t13, .ref t14, .ref t15])) = G17 at s17 new17 ⊢
    have n0t17 : H t17 = none := s16.fr n17
    have ndt17 : t17 ≠ d := fun e => s16.nA n17 (s16.ad _ e)
    have eL : G17 t17 = some (.lst [.ref t1, .ref t2, .ref t3, .ref t4, .ref t5, .ref t7, .ref t9, .ref t10, .ref t11, .ref t12, .ref t13, .ref t14, .ref t15]) := new17
    -- things + [..], again
    refine ⟨.ref t17, rfl, .ref p, rfl, by show 1 ≤ sizeLine; decide, fun t18 n18 => ?_⟩
    have s18 : Sd H (upd G17 t18 (.tup [.int 0])) d c p ns (n + 1 + 1) (fun b => (fun b => (At d) b ∨ b = t6) b ∨ b = t17) v z o [.ref t1, .ref t2, .ref t3, .ref t4, .ref t5, .ref t7, .ref t9, .ref t10, .ref t11, .ref t12, .ref t13, .ref t14, .ref t15] := s17.new n18
    have eL : upd G17 t18 (.tup [.int 0]) t17 = some (.lst [.ref t1, .ref t2, .ref t3, .ref t4, .ref t5, .ref t7, .ref t9, .ref t10, .ref t11, .ref t12, .ref t13, .ref t14, .ref t15]) := by rw [upd_ne (ne_of_none eL n18)]; exact eL
    have new18 : upd G17 t18 (.tup [.int 0]) t18 = some (.tup [.int 0]) := upd_same
    generalize upd G17 t18 (.tup [.int 0]) = G18 at s18 new18 eL ⊢
    have eC := new18
    refine ⟨p, t18, two z o, [.int 0], rfl, rfl, SqT.of s18.pf, SqT.of eC, (fun z => by cases z), by show 3 ≤ sizeLine; decide, (fun z => by cases z), fun _ => fun t19 n19 => ?_⟩
    have s19 : Sd H (upd G18 t19 (.tup (two z o ++ [.int 0]))) d c p ns (n + 1 + 1) (fun b => (fun b => (At d) b ∨ b = t6) b ∨ b = t17) v z o [.ref t1, .ref t2, .ref t3, .ref t4, .ref t5, .ref t7, .ref t9, .ref t10, .ref t11, .ref t12, .ref t13, .ref t14, .ref t15, .ref t19] := s18.add n19 (.len upd_same (s18.nA n19) (by show (3 : Nat) ≠ 2; decide))
    have eL : upd G18 t19 (.tup (two z o ++ [.int 0])) t17 = some (.lst [.ref t1, .ref t2, .ref t3, .ref t4, .ref t5, .ref t7, .ref t9, .ref t10, .ref t11, .ref t12, .ref t13, .ref t14, .ref t15]) := by rw [upd_ne (ne_of_none eL n19)]; exact eL
    have new19 : upd G18 t19 (.tup (two z o ++ [.int 0])) t19 = some (.tup (two z o ++ [.int 0])) := upd_same
    generalize upd G18 t19 (.tup (two z o ++ [.int 0])) = G19 at s19 new19 eL ⊢
    refine ⟨.ref p, rfl, 1, rfl, p, two z o, rfl, SqT.of s19.pf, (show ¬ (HT.sIx 2 0 none = 0 ∧ HT.sIx 2 2 (some 1) = 2) by decide), fun t20 n20 => ?_⟩
    have s20 : Sd H (upd G19 t20 (.tup (cutV (two z o) none (some 1)))) d c p ns (n + 1 + 1) (fun b => (fun b => (At d) b ∨ b = t6) b ∨ b = t17) v z o [.ref t1, .ref t2, .ref t3, .ref t4, .ref t5, .ref t7, .ref t9, .ref t10, .ref t11, .ref t12, .ref t13, .ref t14, .ref t15, .ref t19, .ref t20] := s19.add n20 (.len upd_same (s19.nA n20) (by show (1 : Nat) ≠ 2; decide))
    have eL : upd G19 t20 (.tup (cutV (two z o) none (some 1))) t17 = some (.lst [.ref t1, .ref t2, .ref t3, .ref t4, .ref t5, .ref t7, .ref t9, .ref t10, .ref t11, .ref t12, .ref t13, .ref t14, .ref t15]) := by rw [upd_ne (ne_of_none eL n20)]; exact eL
    have new20 : upd G19 t20 (.tup (cutV (two z o) none (some 1))) t20 = some (.tup (cutV (two z o) none (some 1))) := upd_same
    generalize upd G19 t20 (.tup (cutV (two z o) none (some 1))) = G20 at s20 new20 eL ⊢
    refine ⟨Nat.zero_le _, fun t21 n21 => ?_⟩
    have s21 : Sd H (upd G20 t21 (.tup [])) d c p ns (n + 1 + 1) (fun b => (fun b => (At d) b ∨ b = t6) b ∨ b = t17) v z o [.ref t1, .ref t2, .ref t3, .ref t4, .ref t5, .ref t7, .ref t9, .ref t10, .ref t11, .ref t12, .ref t13, .ref t14, .ref t15, .ref t19, .ref t20, .ref t21] := s20.add n21 (.len upd_same (s20.nA n21) (by decide))
    have eL : upd G20 t21 (.tup []) t17 = some (.lst [.ref t1, .ref t2, .ref t3, .ref t4, .ref t5, .ref t7, .ref t9, .ref t10, .ref t11, .ref t12, .ref t13, .ref t14, .ref t15]) := by rw [upd_ne (ne_of_none eL n21)]; exact eL
    have new21 : upd G20 t21 (.tup []) t21 = some (.tup []) := upd_same
    generalize upd G20 t21 (.tup []) = G21 at s21 new21 eL ⊢
    have s21f17 : Sd H (G21) d c p ns (n + 1 + 1) (fun b => (fun b => (At d) b ∨ b = t6) b ∨ b = t17) v z o [.ref t1, .ref t2, .ref t3, .ref t4, .ref t5, .ref t7, .ref t9, .ref t10, .ref t11, .ref t12, .ref t13, .ref t14, .ref t15, .ref t19, .ref t20, .ref t21, .non] := s21.flat (.non)
    have s21f18 : Sd H (G21) d c p ns (n + 1 + 1) (fun b => (fun b => (At d) b ∨ b = t6) b ∨ b = t17) v z o [.ref t1, .ref t2, .ref t3, .ref t4, .ref t5, .ref t7, .ref t9, .ref t10, .ref t11, .ref t12, .ref t13, .ref t14, .ref t15, .ref t19, .ref t20, .ref t21, .non, .int 5] := s21f17.flat (.int 5)
    have s21f19 : Sd H (G21) d c p ns (n + 1 + 1) (fun b => (fun b => (At d) b ∨ b = t6) b ∨ b = t17) v z o [.ref t1, .ref t2, .ref t3, .ref t4, .ref t5, .ref t7, .ref t9, .ref t10, .ref t11, .ref t12, .ref t13, .ref t14, .ref t15, .ref t19, .ref t20, .ref t21, .non, .int 5, .bl true] := s21f18.flat (.bl true)
    have s21f20 : Sd H (G21) d c p ns (n + 1 + 1) (fun b => (fun b => (At d) b ∨ b = t6) b ∨ b = t17) v z o [.ref t1, .ref t2, .ref t3, .ref t4, .ref t5, .ref t7, .ref t9, .ref t10, .ref t11, .ref t12, .ref t13, .ref t14, .ref t15, .ref t19, .ref t20, .ref t21, .non, .int 5, .bl true, .str "facts"] := s21f19.flat (.str _)
    refine fun t22 n22 => ⟨upd_same, ([(.inl 0, .int 0)] : List (Key × V)), rfl, by decide, ?_⟩
    rw [upd_upd]
    have s22 : Sd H (upd G21 t22 (.dK (mergeK [] [(.inl 0, .int 0)]))) d c p ns (n + 1 + 1) (fun b => (fun b => (At d) b ∨ b = t6) b ∨ b = t17) v z o [.ref t1, .ref t2, .ref t3, .ref t4, .ref t5, .ref t7, .ref t9, .ref t10, .ref t11, .ref t12, .ref t13, .ref t14, .ref t15, .ref t19, .ref t20, .ref t21, .non, .int 5, .bl true, .str "facts", .ref t22] := s21f20.add n22 (.dK upd_same (s21f20.nA n22))
    have eL : upd G21 t22 (.dK (mergeK [] [(.inl 0, .int 0)])) t17 = some (.lst [.ref t1, .ref t2, .ref t3, .ref t4, .ref t5, .ref t7, .ref t9, .ref t10, .ref t11, .ref t12, .ref t13, .ref t14, .ref t15]) := by rw [upd_ne (ne_of_none eL n22)]; exact eL
    generalize upd G21 t22 (.dK (mergeK [] [(.inl 0, .int 0)])) = G22 at s22 eL ⊢
    refine ⟨.ref p, rfl, .ref p, rfl, by show 2 ≤ sizeLine; decide, fun t23 n23 => ?_⟩
    have s23 : Sd H (upd G22 t23 (.tup [.ref p, .ref p])) d c p ns (n + 1 + 1) (fun b => (fun b => (At d) b ∨ b = t6) b ∨ b = t17) v z o [.ref t1, .ref t2, .ref t3, .ref t4, .ref t5, .ref t7, .ref t9, .ref t10, .ref t11, .ref t12, .ref t13, .ref t14, .ref t15, .ref t19, .ref t20, .ref t21, .non, .int 5, .bl true, .str "facts", .ref t22, .ref t23] := s22.pair n23 (.tup (s22.new n23).pf s22.np) (.tup (s22.new n23).pf s22.np) (pairB_l rfl)
    have eL : upd G22 t23 (.tup [.ref p, .ref p]) t17 = some (.lst [.ref t1, .ref t2, .ref t3, .ref t4, .ref t5, .ref t7, .ref t9, .ref t10, .ref t11, .ref t12, .ref t13, .ref t14, .ref t15]) := by rw [upd_ne (ne_of_none eL n23)]; exact eL
    have new23 : upd G22 t23 (.tup [.ref p, .ref p]) t23 = some (.tup [.ref p, .ref p]) := upd_same
    generalize upd G22 t23 (.tup [.ref p, .ref p]) = G23 at s23 new23 eL ⊢
    refine ⟨by show 1 ≤ sizeLine; decide, fun t24 n24 => ?_⟩
    have s24 : Sd H (upd G23 t24 (.lst [.int 0])) d c p ns (n + 1 + 1) (fun b => (fun b => (At d) b ∨ b = t6) b ∨ b = t17) v z o [.ref t1, .ref t2, .ref t3, .ref t4, .ref t5, .ref t7, .ref t9, .ref t10, .ref t11, .ref t12, .ref t13, .ref t14, .ref t15, .ref t19, .ref t20, .ref t21, .non, .int 5, .bl true, .str "facts", .ref t22, .ref t23] := s23.new n24
    have eL : upd G23 t24 (.lst [.int 0]) t17 = some (.lst [.ref t1, .ref t2, .ref t3, .ref t4, .ref t5, .ref t7, .ref t9, .ref t10, .ref t11, .ref t12, .ref t13, .ref t14, .ref t15]) := by rw [upd_ne (ne_of_none eL n24)]; exact eL
    have new24 : upd G23 t24 (.lst [.int 0]) t24 = some (.lst [.int 0]) := upd_same
    generalize upd G23 t24 (.lst [.int 0]) = G24 at s24 new24 eL ⊢
    have nI : ¬ (fun b => (fun b => (At d) b ∨ b = t6) b ∨ b = t17) t24 := s23.nA n24
    have eI := new24
    refine ⟨by show 2 ≤ sizeLine; decide, fun t25 n25 => ?_⟩
    have s25 : Sd H (upd G24 t25 (.tup [.ref t24, .int 0])) d c p ns (n + 1 + 1) (fun b => (fun b => (At d) b ∨ b = t6) b ∨ b = t17) v z o [.ref t1, .ref t2, .ref t3, .ref t4, .ref t5, .ref t7, .ref t9, .ref t10, .ref t11, .ref t12, .ref t13, .ref t14, .ref t15, .ref t19, .ref t20, .ref t21, .non, .int 5, .bl true, .str "facts", .ref t22, .ref t23, .ref t25] := s24.pair n25 (.lst (by rw [upd_ne (ne_of_none eI n25)]; exact eI) nI) (.int _) (pairB_l rfl)
    have eL : upd G24 t25 (.tup [.ref t24, .int 0]) t17 = some (.lst [.ref t1, .ref t2, .ref t3, .ref t4, .ref t5, .ref t7, .ref t9, .ref t10, .ref t11, .ref t12, .ref t13, .ref t14, .ref t15]) := by rw [upd_ne (ne_of_none eL n25)]; exact eL
    have new25 : upd G24 t25 (.tup [.ref t24, .int 0]) t25 = some (.tup [.ref t24, .int 0]) := upd_same
    generalize upd G24 t25 (.tup [.ref t24, .int 0]) = G25 at s25 new25 eL ⊢
    refine ⟨by show 10 ≤ sizeLine; decide, fun t26 n26 => ?_⟩
    have s26 : Sd H (upd G25 t26 (.lst [.ref t19, .ref t20, .ref t21, .non, .int 5, .bl true, .str "facts", .ref t22, .ref t23, .ref t25])) d c p ns (n + 1 + 1) (fun b => (fun b => (At d) b ∨ b = t6) b ∨ b = t17) v z o [.ref t1, .ref t2, .ref t3, .ref t4, .ref t5, .ref t7, .ref t9, .ref t10, .ref t11, .ref t12, .ref t13, .ref t14, .ref t15, .ref t19, .ref t20, .ref t21, .non, .int 5, .bl true, .str "facts", .ref t22, .ref t23, .ref t25] := s25.new n26
    have eL : upd G25 t26 (.lst [.ref t19, .ref t20, .ref t21, .non, .int 5, .bl true, .str "facts", .ref t22, .ref t23, .ref t25]) t17 = some (.lst [.ref t1, .ref t2, .ref t3, .ref t4, .ref t5, .ref t7, .ref t9, .ref t10, .ref t11, .ref t12, .ref t13, .ref t14, .ref t15]) := by rw [upd_ne (ne_of_none eL n26)]; exact eL
    have new26 : upd G25 t26 (.lst [.ref t19, .ref t20, .ref t21, .non, .int 5, .bl true, .str "facts", .ref t22, .ref t23, .ref t25]) t26 = some (.lst [.ref t19, .ref t20, .ref t21, .non, .int 5, .bl true, .str "facts", .ref t22, .ref t23, .ref t25]) := upd_same
    generalize upd G25 t26 (.lst [.ref t19, .ref t20, .ref t21, .non, .int 5, .bl true, .str "facts", .ref t22, .ref t23, .ref t25]) = G26 at s26 new26 eL ⊢
    have eB := new26
    refine ⟨t17, t26, _, _, rfl, rfl, eL, eB, by show 23 ≤ sizeLine; decide, fun t27 n27 => ?_⟩
    have s27 : Sd H (upd G26 t27 (.lst ([.ref t1, .ref t2, .ref t3, .ref t4, .ref t5, .ref t7, .ref t9, .ref t10, .ref t11, .ref t12, .ref t13, .ref t14, .ref t15] ++ [.ref t19, .ref t20, .ref t21, .non, .int 5, .bl true, .str "facts", .ref t22, .ref t23, .ref t25]))) d c p ns (n + 1 + 1) (fun b => (fun b => (fun b => (At d) b ∨ b = t6) b ∨ b = t17) b ∨ b = t27) v z o [.ref t1, .ref t2, .ref t3, .ref t4, .ref t5, .ref t7, .ref t9, .ref t10, .ref t11, .ref t12, .ref t13, .ref t14, .ref t15, .ref t19, .ref t20, .ref t21, .non, .int 5, .bl true, .str "facts", .ref t22, .ref t23, .ref t25] := s26.newL n27
    have new27 : upd G26 t27 (.lst ([.ref t1, .ref t2, .ref t3, .ref t4, .ref t5, .ref t7, .ref t9, .ref t10, .ref t11, .ref t12, .ref t13, .ref t14, .ref t15] ++ [.ref t19, .ref t20, .ref t21, .non, .int 5, .bl true, .str "facts", .ref t22, .ref t23, .ref t25])) t27 = some (.lst ([.ref t1, .ref t2, .ref t3, .ref t4, .ref t5, .ref t7, .ref t9, .ref t10, .ref t11, .ref t12, .ref t13, .ref t14, .ref t15] ++ [.ref t19, .ref t20, .ref t21, .non, .int 5, .bl true, .str "facts", .ref t22, .ref t23, .ref t25])) := upd_same
    generalize upd G26 t27 (.lst ([.ref t1, .ref t2, .ref t3, .ref t4, .ref t5, .ref t7, .ref t9, .ref t10, .ref t11, .ref t12, .ref t13, .ref t14, .ref t15] ++ [.ref t19, .ref t20, .ref t21, .non, .int 5, .bl true, .str "facts", .ref t22, .ref t23, .ref t25])) = G27 at s27 new27 ⊢
    have n0t27 : H t27 = none := s26.fr n27
    have ndt27 : t27 ≠ d := fun e => s26.nA n27 (s26.ad _ e)
    have eL : G27 t27 = some (.lst [.ref t1, .ref t2, .ref t3, .ref t4, .ref t5, .ref t7, .ref t9, .ref t10, .ref t11, .ref t12, .ref t13, .ref t14, .ref t15, .ref t19, .ref t20, .ref t21, .non, .int 5, .bl true, .str "facts", .ref t22, .ref t23, .ref t25]) := new27
    -- the last one
    refine ⟨.ref t27, rfl, .inl ⟨rfl, _, SqL.of eL⟩, .ref p, rfl, .int (side : Nat), rfl, p, two z o, side, .int fs, rfl, rfl, SqT.of s27.pf, hat, .int ((2 ^ v : Nat) : Int), rfl, 10, 20, rfl, rfl, ⟨by decide, by decide, by decide⟩, ((2 ^ v : Nat) : Int), 10 ^ (20 : Int).toNat, rfl, rfl, .inl ⟨by omega, by omega⟩, (fs : Int), _, rfl, rfl, by show 2 ≤ sizeLine; decide, fun t28 n28 => ?_⟩
    have s28 : Sd H (upd G27 t28 (.tup [.int ((fs : Int) + ((2 ^ v : Nat) : Int) * 10 ^ (20 : Int).toNat), .int 0])) d c p ns (n + 1 + 1) (fun b => (fun b => (fun b => (At d) b ∨ b = t6) b ∨ b = t17) b ∨ b = t27) v z o [.ref t1, .ref t2, .ref t3, .ref t4, .ref t5, .ref t7, .ref t9, .ref t10, .ref t11, .ref t12, .ref t13, .ref t14, .ref t15, .ref t19, .ref t20, .ref t21, .non, .int 5, .bl true, .str "facts", .ref t22, .ref t23, .ref t25, .ref t28] := s27.pair n28 (.int _) (.int _) (pairB_l (whole_hi hbig))
    have eL : upd G27 t28 (.tup [.int ((fs : Int) + ((2 ^ v : Nat) : Int) * 10 ^ (20 : Int).toNat), .int 0]) t27 = some (.lst [.ref t1, .ref t2, .ref t3, .ref t4, .ref t5, .ref t7, .ref t9, .ref t10, .ref t11, .ref t12, .ref t13, .ref t14, .ref t15, .ref t19, .ref t20, .ref t21, .non, .int 5, .bl true, .str "facts", .ref t22, .ref t23, .ref t25]) := by rw [upd_ne (ne_of_none eL n28)]; exact eL
    have new28 : upd G27 t28 (.tup [.int ((fs : Int) + ((2 ^ v : Nat) : Int) * 10 ^ (20 : Int).toNat), .int 0]) t28 = some (.tup [.int ((fs : Int) + ((2 ^ v : Nat) : Int) * 10 ^ (20 : Int).toNat), .int 0]) := upd_same
    generalize upd G27 t28 (.tup [.int ((fs : Int) + ((2 ^ v : Nat) : Int) * 10 ^ (20 : Int).toNat), .int 0]) = G28 at s28 new28 eL ⊢
    refine ⟨t27, _, _, rfl, rfl, eL, by show 23 < sizeLine; decide, ?_⟩
    have s29 : Sd H (upd G28 t27 (.lst ([.ref t1, .ref t2, .ref t3, .ref t4, .ref t5, .ref t7, .ref t9, .ref t10, .ref t11, .ref t12, .ref t13, .ref t14, .ref t15, .ref t19, .ref t20, .ref t21, .non, .int 5, .bl true, .str "facts", .ref t22, .ref t23, .ref t25] ++ [.ref t28]))) d c p ns (n + 1 + 1) (fun b => (fun b => (fun b => (At d) b ∨ b = t6) b ∨ b = t17) b ∨ b = t27) v z o [.ref t1, .ref t2, .ref t3, .ref t4, .ref t5, .ref t7, .ref t9, .ref t10, .ref t11, .ref t12, .ref t13, .ref t14, .ref t15, .ref t19, .ref t20, .ref t21, .non, .int 5, .bl true, .str "facts", .ref t22, .ref t23, .ref t25, .ref t28] := s28.updL (.inr rfl) ndt27 n0t27
    have eL : upd G28 t27 (.lst ([.ref t1, .ref t2, .ref t3, .ref t4, .ref t5, .ref t7, .ref t9, .ref t10, .ref t11, .ref t12, .ref t13, .ref t14, .ref t15, .ref t19, .ref t20, .ref t21, .non, .int 5, .bl true, .str "facts", .ref t22, .ref t23, .ref t25] ++ [.ref t28])) t27 = some (.lst [.ref t1, .ref t2, .ref t3, .ref t4, .ref t5, .ref t7, .ref t9, .ref t10, .ref t11, .ref t12, .ref t13, .ref t14, .ref t15, .ref t19, .ref t20, .ref t21, .non, .int 5, .bl true, .str "facts", .ref t22, .ref t23, .ref t25, .ref t28]) := upd_same
    generalize upd G28 t27 (.lst ([.ref t1, .ref t2, .ref t3, .ref t4, .ref t5, .ref t7, .ref t9, .ref t10, .ref t11, .ref t12, .ref t13, .ref t14, .ref t15, .ref t19, .ref t20, .ref t21, .non, .int 5, .bl true, .str "facts", .ref t22, .ref t23, .ref t25] ++ [.ref t28])) = G29 at s29 eL ⊢
    refine ⟨.ref t27, rfl, .ref d, rfl, .ref t27, rfl, t27, _, rfl, .inl (SqL.of eL), d, c, ns, n + 1 + 1, 24, rfl, s29.D, by omega, by omega, by omega, fun r H9 r0 r1 k9 D9 => ?_⟩
    obtain ⟨r, rfl⟩ := Int.eq_ofNat_of_zero_le r0
    have hr9 : r < ([.ref t1, .ref t2, .ref t3, .ref t4, .ref t5, .ref t7, .ref t9, .ref t10, .ref t11, .ref t12, .ref t13, .ref t14, .ref t15, .ref t19, .ref t20, .ref t21, .non, .int 5, .bl true, .str "facts", .ref t22, .ref t23, .ref t25, .ref t28] : List V).length := by show r < 24; omega
    have s9 := s29.draw k9 D9
    refine ⟨t27, [.ref t1, .ref t2, .ref t3, .ref t4, .ref t5, .ref t7, .ref t9, .ref t10, .ref t11, .ref t12, .ref t13, .ref t14, .ref t15, .ref t19, .ref t20, .ref t21, .non, .int 5, .bl true, .str "facts", .ref t22, .ref t23, .ref t25, .ref t28], (r : Int), ([.ref t1, .ref t2, .ref t3, .ref t4, .ref t5, .ref t7, .ref t9, .ref t10, .ref t11, .ref t12, .ref t13, .ref t14, .ref t15, .ref t19, .ref t20, .ref t21, .non, .int 5, .bl true, .str "facts", .ref t22, .ref t23, .ref t25, .ref t28] : List V)[r], rfl, rfl, SqL.of (k9.lst eL ndt27), atI_nat (j := r) (List.getElem?_eq_getElem hr9), ?_⟩
    exact q _ _ s9.k s9.D (s9.al _ (List.getElem_mem hr9)).fb
end
end K13

set_option Elab.async false
set_option linter.all false
set_option maxRecDepth 100000
set_option maxHeartbeats 4000000
namespace K13
open PySem PySem.Spec PyProof.Rows L2
/-! ### max of facts -/
def rMaxT2 (K : PySem.W.Frag) : List V → Hp → VK → Prop := fun vs H Q => ∃ (a : Addr) (z o : Nat), vs = [V.ref a] ∧ SqT K H a (two z o) ∧ Q (.int (max z o : Nat)) H
theorem cr_maxT2 {X : Cx} (hc : X.calm = true) {k : Nat} (hr : Room k X.A) : CallR X (.builtin "max") (rMaxT2 X.K) := by
  intro pins s σ H vs us Q I r h
  obtain ⟨a, z, o, rfl, hs, q⟩ := h
  obtain ⟨its, rv, ⟨ob, h1, h2, n, h3⟩, _⟩ := I.tuple hs
  rw [Vals.ref1 r]
  obtain ⟨as, ra⟩ := Dp.readsAll I [.int (z : Int), .int (o : Int)] (two z o) its (.cons (.int _) (.cons (.int _) .nil)) rv
  have hl : s.heap.IsTuple a its.toArray := ⟨ob, h1, h2, n, h3⟩
  refine PySem.W.max_tuple_datum (α := Int) (x := (z : Int)) (xs := [(o : Int)]) (I.ok.hd hc) hl ⟨as, ra⟩ (by have := hr.un; show X.A.units + 1 + 0 < cLine; omega) fun i v h' tk hi hd hk => ?_
  obtain ⟨bs, rd⟩ := hd
  have e : PySem.W.maxOf (z : Int) [(o : Int)] = ((max z o : Nat) : Int) := by
    show (if decide ((z : Int) < (o : Int)) = true then (o : Int) else (z : Int)) = _
    by_cases c : z < o
    · rw [if_pos (decide_eq_true (by omega))]; omega
    · rw [if_neg (fun e => c (by have := of_decide_eq_true e; omega))]; omega
  rw [e] at rd
  cases rd
  exact ⟨.int _, H, I.kept hk, ⟨_, rfl⟩, q⟩
end K13

set_option Elab.async false
set_option linter.all false
set_option maxRecDepth 100000
set_option maxHeartbeats 8000000
namespace K13
open PySem PySem.Spec PyProof.Rows L2
/-! ### the law -/
theorem pair_true {v z o : Nat} (hz : z < 2 ^ v) (ho : o < 2 ^ v) (no : z &&& o = 0) : pairB v (.int (z : Int)) (.int (o : Int)) = true := by
  have pp := pow_pos' (w := v)
  have hm1 : most v + 1 = 2 ^ v := by unfold most; omega
  show ((decide ((0 : Int) ≤ z) && decide ((z : Int) ≤ (most v : Nat))) && ((decide ((0 : Int) ≤ o) && decide ((o : Int) ≤ (most v : Nat))) && decide (Builtin.bitAnd (z : Int) (o : Int) = 0))) = true
  rw [bA, no, decide_eq_true (show (0 : Int) ≤ z by omega), decide_eq_true (show (z : Int) ≤ (most v : Nat) by omega), decide_eq_true (show (0 : Int) ≤ o by omega), decide_eq_true (show (o : Int) ≤ (most v : Nat) by omega)]
  rfl
theorem pair_narrow {m z o : Nat} (no : z &&& o = 0) : pairB m (.int (z : Int)) (.int (o : Int)) = decide (max z o < 2 ^ m) := by
  by_cases h : max z o < 2 ^ m
  · rw [decide_eq_true h]
    exact pair_true (by omega) (by omega) no
  · rw [decide_eq_false h]
    have pp := pow_pos' (w := m)
    have hm1 : most m + 1 = 2 ^ m := by unfold most; omega
    rcases (show 2 ^ m ≤ z ∨ 2 ^ m ≤ o by omega) with h1 | h1
    · exact pairB_l (whole_hi (by omega))
    · exact pairB_r (whole_hi (by omega))
abbrev sLaw : Stmt := top 15
theorem scLaw : FnScope ["script", "draw", "k", "wide", "facts", "odd", "ones", "twin", "narrow", "one"] ["script"] (defScope sLaw) := ⟨rfl, rfl, rfl, by decide +kernel, rfl, by decide +kernel, by decide +kernel⟩
def spLaw (K : PySem.W.Frag) : Sp := fun vs H Q _ => ∃ (a : Addr) (ns : List Int), vs = [.ref a] ∧ SqL K H a (ns.map V.int) ∧ ns.length ≤ 63 ∧ ∀ H', Q (.bl true) H'
def rAddE : R2 := fun x y H Q => ∃ i j k : Int, x = .int i ∧ y = .int j ∧ i + j = k ∧ Q (.int k) H
theorem op_addE {X : Cx} : OpR X (binaryOp .Add) rAddE := by
  intro pins s σ H x y v u Q I rx ry h
  obtain ⟨i, j, k, rfl, rfl, rfl, q⟩ := h
  exact op_add pins s σ H _ _ v u Q I rx ry ⟨_, _, rfl, rfl, q⟩
/-- a def that stands, with its promise -/
def Def (P : Program) (w : World) (K : PySem.W.Frag) (mg : PySem.Str → Option Value) (base : Heap) (k : Nat) (x : PySem.Str) (ps : List PySem.Str) (sp : Sp) : Prop := ∃ f fd, FnOk P w K mg base CX0 k f fd ps sp ∧ Binds K fd ps [] ∧ PySem.W.keepIn K (.ref f) = true ∧ mg x = some (.ref f)
def DefG (P : Program) (w : World) (K : PySem.W.Frag) (mg : PySem.Str → Option Value) (base : Heap) (k : Nat) (x : PySem.Str) (ps : List PySem.Str) (sp : Sp) : Prop := ∃ f fd, FnG P w K mg base k f fd ps sp ∧ Binds K fd ps [] ∧ PySem.W.keepIn K (.ref f) = true ∧ mg x = some (.ref f)
section
variable {P : Program} {w : World} {K : PySem.W.Frag} {mg : PySem.Str → Option Value} {base : Heap} {f : Addr} {fd : FuncData}
theorem ok_law (F : FnP K "law" sLaw f fd) (dB : Def P w K mg base 1 "_law_begin" ["script"] (spBegin K)) (dN : Def P w K mg base 2 "_law_next" ["draw", "many"] spNext) (dF : Def P w K mg base 3 "_law_facts" ["draw", "wide"] spLFacts) (dR : DefG P w K mg base 3 "_law_right" ["wide", "facts"] (spRight K))
    (dI : Def P w K mg base 2 "is_facts" ["wide", "thing"] (spIsFacts K)) (dO : Def P w K mg base 3 "_law_odd" ["draw", "wide", "facts"] (spOdd K)) (m_range : mg "range" = none) (m_min : mg "min" = none) (m_len : mg "len" = none) (m_max : mg "max" = none) (m_tuple : mg "tuple" = none) : FnG P w K mg base 4 f fd ["script"] (spLaw K) := by
  obtain ⟨fB, fdB, GB, bB, kB, gB⟩ := dB
  obtain ⟨fN, fdN, GN, bN, kN, gN⟩ := dN
  obtain ⟨fF, fdF, GF, bF, kF, gF⟩ := dF
  obtain ⟨fR, fdR, GR, bR, kR, gR⟩ := dR
  obtain ⟨fI, fdI, GI, bI, kI, gI⟩ := dI
  obtain ⟨fO, fdO, GO, bO, kO, gO⟩ := dO
  refine fnG_of (k := 3) F scLaw (fun vs H Q E h => ?_) (fun cdv A outer s H vs Q E gd hr h => ?_)
  · obtain ⟨a, ns, rfl, _⟩ := h
    rfl
  · obtain ⟨a, ns, rfl, hS, hl, q⟩ := h
    have hr1 := hr.mono (show 1 ≤ 3 by decide)
    have hr2 := hr.mono (show 2 ≤ 3 by decide)
    refine ⟨_, PSs.nox (pss_cons (ps_set (i := 1) scLaw.nd rfl (Or.inl rfl) (pe_call GB hr1 (by rfl) gB kB bB .nil pass0 (pa_cons (pv 0) pa_nil)))
    (pss_cons (ps_for PassesOwn.never rfl (pi_range1 rfl m_range (pa_cons (pe_op op_addE (pe_callB (call_min2 rfl) (by rfl) m_min (by decide +kernel) (pa_cons pe_int (pa_cons (pe_callB call_len_seq (by rfl) m_len PySem.boot_len (pa_cons (pv 0) pa_nil)) pa_nil))) pe_int) pa_nil)) (pg_name (i := 2) scLaw.nd rfl (Or.inl rfl))
      (pss_cons (ps_set (i := 3) scLaw.nd rfl (Or.inl rfl) (pe_op op_addE pe_int (pe_call GN hr2 (by rfl) gN kN bN .nil pass0 (pa_cons (pv 1) (pa_cons pe_int pa_nil)))))
      (pss_cons (ps_set (i := 4) scLaw.nd rfl (Or.inl rfl) (pe_call GF hr (by rfl) gF kF bF .nil pass0 (pa_cons (pv 1) (pa_cons (pv 3) pa_nil))))
      (pss_cons (ps_if (PW.pt (pw_or (pt_not (pt_val (pe_callG GR gd hr (by rfl) gR kR bR pass0 (pa_cons (pv 3) (pa_cons (pv 4) pa_nil))))) (pw_or1 (pt_cmpR op_isnot_bl (pe_call GI hr2 (by rfl) gI kI bI .nil pass0 (pa_cons (pv 3) (pa_cons (pv 4) pa_nil))) pe_bl (nomark _)))))
        (pss_one (ps_ret pe_bl))
        pss_nil)
      (pss_cons (ps_set (i := 5) scLaw.nd rfl (Or.inl rfl) (pe_call GO hr (by rfl) gO kO bO .nil pass0 (pa_cons (pv 1) (pa_cons (pv 3) (pa_cons (pv 4) pa_nil)))))
      (pss_cons (ps_if (PW.pt (pw_or (pt_cmpR op_isnot_bl (pe_call GI hr2 (by rfl) gI kI bI .nil pass0 (pa_cons (pv 3) (pa_cons (pv 5) pa_nil))) pe_bl (nomark _)) (pw_or1 (pt_cmpR op_isnot_bl (pe_call GI hr2 (by rfl) gI kI bI .nil pass0 (pa_cons (pv 3) (pa_cons (pv 4) pa_nil))) pe_bl (nomark _)))))
        (pss_one (ps_ret pe_bl))
        pss_nil)
      (pss_cons (ps_set (i := 6) scLaw.nd rfl (Or.inl rfl) (pe_ifExp (pt_cmpR op_eq (pe_op op_mod (pe_ix ix_tup (pv 4) pe_int (fun _ _ => rfl)) pe_int) pe_int (nomark _)) (pe_tup (pa_cons pe_int (pa_cons pe_int pa_nil))) (pe_tup (pa_cons pe_int (pa_cons pe_int pa_nil)))))
      (pss_cons (ps_set (i := 7) scLaw.nd rfl (Or.inl rfl) (pe_callTy call_tuple_of (by rfl) m_tuple (by decide +kernel) (pa_cons (pe_lc (own := [("one", 9)]) (g := gName 9) (tt := tYes) (te := tOp rEq (tVar 9) (tC (.int 1))) rfl scLaw.nd (pi_tup (pv 6)) (blkOk_by (own := [("one", 9)]) (N := ["script", "draw", "k", "wide", "facts", "odd", "ones", "twin", "narrow", "one"]) (sc := defScope sLaw) (by decide +kernel)) (by exact (fun _ _ _ _ _ => (pg_name (i := 9) scLaw.nd rfl (Or.inl rfl)))) (by exact (fun _ _ _ _ _ => pts_nil)) (by exact (fun _ _ _ _ _ => (pe_cmpR op_eq (pv 9) pe_int (nomark _))))) pa_nil)))
      (pss_cons (ps_if (PW.pt (pw_or (pt_cmpR op_isnot_bl (pe_call GI hr2 (by rfl) gI kI bI .nil pass0 (pa_cons (pv 3) (pa_cons (pv 6) pa_nil))) pe_bl (nomark _)) (pw_or1 (pt_cmpR op_isnot_bl (pe_call GI hr2 (by rfl) gI kI bI .nil pass0 (pa_cons (pv 3) (pa_cons (pv 7) pa_nil))) pe_bl (nomark _)))))
        (pss_one (ps_ret pe_bl))
        pss_nil)
      (pss_cons (ps_set (i := 8) scLaw.nd rfl (Or.inl rfl) (pe_op op_addE pe_int (pe_call GN hr2 (by rfl) gN kN bN .nil pass0 (pa_cons (pv 1) (pa_cons (pv 3) pa_nil)))))
      (pss_one (ps_if (pt_cmpR op_ne (pe_call GI hr2 (by rfl) gI kI bI .nil pass0 (pa_cons (pv 8) (pa_cons (pv 4) pa_nil))) (pe_cmpR n_lt (pe_callB (cr_maxT2 rfl hr) (by rfl) m_max (by decide +kernel) (pa_cons (pv 4) pa_nil)) (pe_op n_bit pe_int (pv 8)) (nomark _)) (nomark _))
        (pss_one (ps_ret pe_bl))
        pss_nil))))))))))))
    (pss_one (ps_ret pe_bl)))), ?_⟩
    refine ⟨.ref a, rfl, a, ns, rfl, hS, hl, fun d c H1 nd k1 D1 => ?_⟩
    have hS1 : SqL K H1 a (ns.map V.int) := k1.sql hS (fun z => z)
    obtain ⟨m, hm, hm2⟩ : ∃ m : Nat, (if (((ns.map V.int).length : Nat) : Int) < 60 then (((ns.map V.int).length : Nat) : Int) else 60) + 3 = (m : Int) ∧ m ≤ 63 := by
      have hL : (ns.map V.int).length = ns.length := List.length_map ..
      rw [hL]
      by_cases h : ((ns.length : Nat) : Int) < 60
      · rw [if_pos h]; exact ⟨ns.length + 3, by omega, by omega⟩
      · rw [if_neg h]; exact ⟨63, by omega, by omega⟩
    refine ⟨.ref a, rfl, a, ns.map V.int, rfl, .inl hS1, 60, ((ns.map V.int).length : Int), rfl, _, 3, (m : Int), rfl, rfl, hm, (m : Int), rfl, by omega, by omega, ?_⟩
    refine for_range (lo := 0) (n := m) (fun i σ H' => Dr H' d c (ns ++ [0]) (9 * i) ∧ ∃ y2 y3 y4 y5 y6 y7 y8, σ = [some (.ref a), some (.ref d), y2, y3, y4, y5, y6, y7, y8, none]) ⟨D1, none, none, none, none, none, none, none, rfl⟩ (fun i σ H2 hi h => ?_) (fun σ H2 h => ?_)
    · obtain ⟨D2, y2, y3, y4, y5, y6, y7, y8, rfl⟩ := h
      -- wide, facts
      refine ⟨.ref d, rfl, d, c, ns ++ [0], 9 * i, 12, rfl, D2, by omega, by omega, by omega, fun r H3 r0 r1 k3 D3 => ?_⟩
      obtain ⟨r, rfl⟩ := Int.eq_ofNat_of_zero_le r0
      obtain ⟨v, hv, hv1, hv2⟩ : ∃ v : Nat, (1 : Int) + (r : Int) = (v : Int) ∧ 1 ≤ v ∧ v ≤ 12 := ⟨1 + r, by omega, by omega, by omega⟩
      refine ⟨1, (r : Int), (v : Int), rfl, rfl, hv, ?_⟩
      refine ⟨.ref d, rfl, .int v, rfl, d, c, ns ++ [0], 9 * i + 1, v, rfl, D3, by omega, hv1, hv2, fun p z o H4 fc np k4 D4 ep => ?_⟩
      have pb := pow_bound hv2
      have ndp : ¬ p = d := fun e => by
        obtain ⟨a1, l1, u1, h1, _⟩ := D4.at_
        rw [e, h1] at ep
        cases ep
      -- the first test
      refine ⟨.int v, rfl, .ref p, rfl, p, v, z, o, rfl, SqT.of ep, fc, fun H5 k5 => ⟨true, rfl, iteF ?_⟩⟩
      have ep5 := k5.tup ep (fun z => z)
      have D5 := D4.stay k5
      have yes : ∀ H', H' p = some (.tup (two z o)) → FB K H' v (.ref p) true := fun H' e => by
        rw [← pair_true fc.hz fc.ho fc.no]
        exact .pair (SqT.of e) (.int _) (.int _)
      refine ⟨.int v, rfl, .ref p, rfl, v, .ref p, true, rfl, hv2, yes H5 ep5, true, true, rfl, rfl, false, rfl, iteF ?_⟩
      -- odd
      refine ⟨.ref d, rfl, .int v, rfl, .ref p, rfl, d, c, p, ns ++ [0], 9 * i + 1 + 4, v, z, o, rfl, D5, by omega, fc, ep5, fun x H6 k6 D6 fx => ?_⟩
      have ep6 := k6.tup ep5 ndp
      refine ⟨.int v, rfl, x, rfl, v, x, false, rfl, hv2, fx, false, false, rfl, rfl, false, rfl, iteF ?_⟩
      refine ⟨.int v, rfl, .ref p, rfl, v, .ref p, true, rfl, hv2, yes H6 ep6, true, true, rfl, rfl, false, rfl, iteF ?_⟩
      -- ones, twin
      refine ⟨.ref p, rfl, p, two z o, 0, .int z, rfl, rfl, SqT.of ep6, atI_nat (j := 0) rfl, (z : Int), 2, rfl, rfl, (by show (0 : Int) < 2; decide), rfl, _, rfl, ite2 (fun _ => ?_) (fun _ => ?_)⟩
      · refine ⟨by show 2 ≤ sizeLine; decide, fun t1 n1 => ?_⟩
        have e1 : upd H6 t1 (.tup [.int 1, .int 0]) t1 = some (.tup [.int 1, .int 0]) := upd_same
        have ep7 : upd H6 t1 (.tup [.int 1, .int 0]) p = some (.tup (two z o)) := by rw [upd_ne (ne_of_none ep6 n1)]; exact ep6
        have D7 : Dr (upd H6 t1 (.tup [.int 1, .int 0])) d c (ns ++ [0]) (9 * i + 1 + 4 + 3) := D6.new n1
        generalize upd H6 t1 (.tup [.int 1, .int 0]) = H7 at e1 ep7 D7 ⊢
        refine ⟨.ref t1, rfl, t1, rfl, ⟨_, SqT.of e1⟩, fun l nl => ?_⟩
        refine lc_tup (K := K) (a := t1) (xs := [.int 1, .int 0]) (fun j H' => Kept None H7 H' ∧ H' l = some (.lst (([.bl true, .bl false] : List V).take j))) ⟨Kept.refl.new nl, upd_same⟩ (fun j H' _ h => SqT.of (h.1.tup e1 (fun z => z))) (fun j x' H' hx h => ?_) (fun H8 h => ?_)
        · obtain ⟨k1', k2'⟩ := h
          refine ⟨rfl, x', rfl, ?_⟩
          match j, hx with
          | 0, hx =>
            obtain rfl : V.int 1 = x' := Option.some.inj hx
            exact ⟨rfl, [], k2', by show 0 < sizeLine; decide, k1'.new nl, upd_same⟩
          | 1, hx =>
            obtain rfl : V.int 0 = x' := Option.some.inj hx
            exact ⟨rfl, [.bl true], k2', by show 1 < sizeLine; decide, k1'.new nl, upd_same⟩
          | j + 2, hx => cases hx
        · obtain ⟨k8, e8⟩ := h
          refine ⟨l, [.bl true, .bl false], rfl, .inl ⟨SqL.of e8, fun t2 n2 => ?_⟩⟩
          have e9 : upd H8 t2 (.tup [.bl true, .bl false]) t2 = some (.tup [.bl true, .bl false]) := upd_same
          have e19 : upd H8 t2 (.tup [.bl true, .bl false]) t1 = some (.tup [.int 1, .int 0]) := by rw [upd_ne (ne_of_none (k8.tup e1 (fun z => z)) n2)]; exact k8.tup e1 (fun z => z)
          have ep9 : upd H8 t2 (.tup [.bl true, .bl false]) p = some (.tup (two z o)) := by rw [upd_ne (ne_of_none (k8.tup ep7 (fun z => z)) n2)]; exact k8.tup ep7 (fun z => z)
          have D9 : Dr (upd H8 t2 (.tup [.bl true, .bl false])) d c (ns ++ [0]) (9 * i + 1 + 4 + 3) := (D7.stay k8).new n2
          generalize upd H8 t2 (.tup [.bl true, .bl false]) = H9 at e9 e19 ep9 D9 ⊢
          have h2v : 2 ^ 1 ≤ 2 ^ v := Nat.pow_le_pow_right (by decide) hv1
          have y1 : FB K H9 v (.ref t1) true := by
            rw [← pair_true (v := v) (z := 1) (o := 0) (by omega) (by omega) (by decide)]
            exact .pair (SqT.of e19) (.int _) (.int _)
          refine ⟨.int v, rfl, .ref t1, rfl, v, .ref t1, true, rfl, hv2, y1, true, true, rfl, rfl, false, rfl, iteF ?_⟩
          refine ⟨.int v, rfl, .ref t2, rfl, v, .ref t2, false, rfl, hv2, .pair (SqT.of e9) (.bl _) (.bl _), false, false, rfl, rfl, false, rfl, iteF ?_⟩
          -- narrow
          refine ⟨.ref d, rfl, .int v, rfl, d, c, ns ++ [0], 9 * i + 1 + 4 + 3, (v : Int), rfl, D9, by omega, by omega, by omega, fun r' H10 r0' r1' k10 D10 => ?_⟩
          obtain ⟨r', rfl⟩ := Int.eq_ofNat_of_zero_le r0'
          obtain ⟨nw, hnw, hnw2⟩ : ∃ nw : Nat, (1 : Int) + (r' : Int) = (nw : Int) ∧ nw ≤ 12 := ⟨1 + r', by omega, by omega⟩
          refine ⟨1, (r' : Int), (nw : Int), rfl, rfl, hnw, ?_⟩
          have ep10 := k10.tup ep9 ndp
          have nar : FB K H10 nw (.ref p) (decide (max z o < 2 ^ nw)) := by
            rw [← pair_narrow fc.no]
            exact .pair (SqT.of ep10) (.int _) (.int _)
          refine ⟨.int nw, rfl, .ref p, rfl, nw, .ref p, decide (max z o < 2 ^ nw), rfl, hnw2, nar, .ref p, rfl, p, z, o, rfl, SqT.of ep10, .int nw, rfl, nw, rfl, rfl, by omega, max z o, 2 ^ nw, rfl, rfl, rfl, ?_⟩
          rw [decide_eq_true rfl]
          refine ⟨false, rfl, iteF ?_⟩
          exact ⟨D10.more (by omega), _, _, _, _, _, _, _, rfl⟩
      · refine ⟨by show 2 ≤ sizeLine; decide, fun t1 n1 => ?_⟩
        have e1 : upd H6 t1 (.tup [.int 0, .int 1]) t1 = some (.tup [.int 0, .int 1]) := upd_same
        have ep7 : upd H6 t1 (.tup [.int 0, .int 1]) p = some (.tup (two z o)) := by rw [upd_ne (ne_of_none ep6 n1)]; exact ep6
        have D7 : Dr (upd H6 t1 (.tup [.int 0, .int 1])) d c (ns ++ [0]) (9 * i + 1 + 4 + 3) := D6.new n1
        generalize upd H6 t1 (.tup [.int 0, .int 1]) = H7 at e1 ep7 D7 ⊢
        refine ⟨.ref t1, rfl, t1, rfl, ⟨_, SqT.of e1⟩, fun l nl => ?_⟩
        refine lc_tup (K := K) (a := t1) (xs := [.int 0, .int 1]) (fun j H' => Kept None H7 H' ∧ H' l = some (.lst (([.bl false, .bl true] : List V).take j))) ⟨Kept.refl.new nl, upd_same⟩ (fun j H' _ h => SqT.of (h.1.tup e1 (fun z => z))) (fun j x' H' hx h => ?_) (fun H8 h => ?_)
        · obtain ⟨k1', k2'⟩ := h
          refine ⟨rfl, x', rfl, ?_⟩
          match j, hx with
          | 0, hx =>
            obtain rfl : V.int 0 = x' := Option.some.inj hx
            exact ⟨rfl, [], k2', by show 0 < sizeLine; decide, k1'.new nl, upd_same⟩
          | 1, hx =>
            obtain rfl : V.int 1 = x' := Option.some.inj hx
            exact ⟨rfl, [.bl false], k2', by show 1 < sizeLine; decide, k1'.new nl, upd_same⟩
          | j + 2, hx => cases hx
        · obtain ⟨k8, e8⟩ := h
          refine ⟨l, [.bl false, .bl true], rfl, .inl ⟨SqL.of e8, fun t2 n2 => ?_⟩⟩
          have e9 : upd H8 t2 (.tup [.bl false, .bl true]) t2 = some (.tup [.bl false, .bl true]) := upd_same
          have e19 : upd H8 t2 (.tup [.bl false, .bl true]) t1 = some (.tup [.int 0, .int 1]) := by rw [upd_ne (ne_of_none (k8.tup e1 (fun z => z)) n2)]; exact k8.tup e1 (fun z => z)
          have ep9 : upd H8 t2 (.tup [.bl false, .bl true]) p = some (.tup (two z o)) := by rw [upd_ne (ne_of_none (k8.tup ep7 (fun z => z)) n2)]; exact k8.tup ep7 (fun z => z)
          have D9 : Dr (upd H8 t2 (.tup [.bl false, .bl true])) d c (ns ++ [0]) (9 * i + 1 + 4 + 3) := (D7.stay k8).new n2
          generalize upd H8 t2 (.tup [.bl false, .bl true]) = H9 at e9 e19 ep9 D9 ⊢
          have h2v : 2 ^ 1 ≤ 2 ^ v := Nat.pow_le_pow_right (by decide) hv1
          have y1 : FB K H9 v (.ref t1) true := by
            rw [← pair_true (v := v) (z := 0) (o := 1) (by omega) (by omega) (by decide)]
            exact .pair (SqT.of e19) (.int _) (.int _)
          refine ⟨.int v, rfl, .ref t1, rfl, v, .ref t1, true, rfl, hv2, y1, true, true, rfl, rfl, false, rfl, iteF ?_⟩
          refine ⟨.int v, rfl, .ref t2, rfl, v, .ref t2, false, rfl, hv2, .pair (SqT.of e9) (.bl _) (.bl _), false, false, rfl, rfl, false, rfl, iteF ?_⟩
          -- narrow
          refine ⟨.ref d, rfl, .int v, rfl, d, c, ns ++ [0], 9 * i + 1 + 4 + 3, (v : Int), rfl, D9, by omega, by omega, by omega, fun r' H10 r0' r1' k10 D10 => ?_⟩
          obtain ⟨r', rfl⟩ := Int.eq_ofNat_of_zero_le r0'
          obtain ⟨nw, hnw, hnw2⟩ : ∃ nw : Nat, (1 : Int) + (r' : Int) = (nw : Int) ∧ nw ≤ 12 := ⟨1 + r', by omega, by omega⟩
          refine ⟨1, (r' : Int), (nw : Int), rfl, rfl, hnw, ?_⟩
          have ep10 := k10.tup ep9 ndp
          have nar : FB K H10 nw (.ref p) (decide (max z o < 2 ^ nw)) := by
            rw [← pair_narrow fc.no]
            exact .pair (SqT.of ep10) (.int _) (.int _)
          refine ⟨.int nw, rfl, .ref p, rfl, nw, .ref p, decide (max z o < 2 ^ nw), rfl, hnw2, nar, .ref p, rfl, p, z, o, rfl, SqT.of ep10, .int nw, rfl, nw, rfl, rfl, by omega, max z o, 2 ^ nw, rfl, rfl, rfl, ?_⟩
          rw [decide_eq_true rfl]
          refine ⟨false, rfl, iteF ?_⟩
          exact ⟨D10.more (by omega), _, _, _, _, _, _, _, rfl⟩
    · exact q H2
end
end K13

set_option Elab.async false
set_option linter.all false
set_option maxRecDepth 100000
set_option maxHeartbeats 0
namespace K13
open PySem PySem.Spec PyProof.Rows L2
/-! ### the head: facts by names, the run -/
def mkD (x : PySem.Str) (i : Nat) : He.DefD := ⟨(x, none), x, x, defArgs (top i), defBody (top i), defScope (top i), [], []⟩
def fn : List He.DefD := [mkD "is_whole" 1, mkD "is_facts" 3, mkD "least_word" 4, mkD "greatest_word" 5, mkD "ways_of" 6, mkD "first_facts" 7, mkD "_law_begin" 9, mkD "_law_mixed" 10, mkD "_law_next" 11, mkD "_law_facts" 12, mkD "_law_right" 13, mkD "_law_odd" 14, mkD "law" 15]
def fa : List He.Fa := [.glo "is_whole", .glo "is_facts", .glo "least_word", .glo "greatest_word", .glo "ways_of", .glo "first_facts", .glo "_law_begin", .glo "_law_mixed", .glo "_law_next", .glo "_law_facts", .glo "_law_right", .glo "_law_odd", .glo "law", .free "type", .free "int", .free "tuple", .free "len", .free "range", .free "repr", .free "min", .free "max"]
abbrev R : PySem.W.OpenRow := PySem.W.OpenLaw.row PySem.Challenge.rw_bitneed_k13_ways_and_what_facts_are
abbrev hkS : PySem.W.Hook := He.hookD 4 fa fn
def ob (s : PySem.W.SharedT) : He.AlD := He.obsDG 4 fa fn (HandSHeadRun.getT s)
theorem ob_eq (s : PySem.W.SharedT) : ob s = hkS.obs s.abs := He.obsDG_eq (HandSHeadRun.getT_eq s)
def loose : List PySem.Str := ["is_whole", "is_facts", "least_word", "greatest_word", "ways_of", "first_facts", "_law_begin", "_law_mixed", "_law_next", "_law_facts", "_law_right", "_law_odd"]
theorem run (w : World) : HandSHeadRun.RunEq R (PySem.W.view R.prog [15]) hkS ob 2000 loose w := by
  intro os
  kernel_rfl
theorem facts {P : Program} {w : World} {K : PySem.W.Frag} {h : Heap} {mg : PySem.Str → Option Value} {f : Addr} (X : K.In h) (G : h.Ns mainGlobals mg) (hfa : mg ("law" : PySem.Str) = some (.ref f)) (c : He.SaysD fa fn K) :
    ∃ fd : FuncData, (∀ (s : Shared) (v : Value), BindsTo s fd ⟨[v], []⟩ [("script", v)]) ∧ ∀ base : Heap, K.In base → base.Ns mainGlobals mg → FnG P w K mg base 4 f fd ["script"] (spLaw K) := by
  obtain ⟨fdIsWhole, FIsWhole⟩ := c.def_ 0 (d := mkD "is_whole" 1) rfl
  obtain ⟨fdIsFacts, FIsFacts⟩ := c.def_ 1 (d := mkD "is_facts" 3) rfl
  obtain ⟨fdLeastWord, FLeastWord⟩ := c.def_ 2 (d := mkD "least_word" 4) rfl
  obtain ⟨fdGreatestWord, FGreatestWord⟩ := c.def_ 3 (d := mkD "greatest_word" 5) rfl
  obtain ⟨fdWaysOf, FWaysOf⟩ := c.def_ 4 (d := mkD "ways_of" 6) rfl
  obtain ⟨fdFirstFacts, FFirstFacts⟩ := c.def_ 5 (d := mkD "first_facts" 7) rfl
  obtain ⟨fdLBegin, FLBegin⟩ := c.def_ 6 (d := mkD "_law_begin" 9) rfl
  obtain ⟨fdLMixed, FLMixed⟩ := c.def_ 7 (d := mkD "_law_mixed" 10) rfl
  obtain ⟨fdLNext, FLNext⟩ := c.def_ 8 (d := mkD "_law_next" 11) rfl
  obtain ⟨fdLFacts, FLFacts⟩ := c.def_ 9 (d := mkD "_law_facts" 12) rfl
  obtain ⟨fdLRight, FLRight⟩ := c.def_ 10 (d := mkD "_law_right" 13) rfl
  obtain ⟨fdLOdd, FLOdd⟩ := c.def_ 11 (d := mkD "_law_odd" 14) rfl
  obtain ⟨fdLaw, FLaw⟩ := c.def_ 12 (d := mkD "law" 15) rfl
  have e := hfa.symm.trans (He.glo_ok X G (c.fact 12 (f := .glo "law") rfl))
  cases e
  have gIsWhole := He.glo_ok X G (c.fact 0 (f := .glo "is_whole") rfl)
  have gIsFacts := He.glo_ok X G (c.fact 1 (f := .glo "is_facts") rfl)
  have gLeastWord := He.glo_ok X G (c.fact 2 (f := .glo "least_word") rfl)
  have gGreatestWord := He.glo_ok X G (c.fact 3 (f := .glo "greatest_word") rfl)
  have gWaysOf := He.glo_ok X G (c.fact 4 (f := .glo "ways_of") rfl)
  have gFirstFacts := He.glo_ok X G (c.fact 5 (f := .glo "first_facts") rfl)
  have gLBegin := He.glo_ok X G (c.fact 6 (f := .glo "_law_begin") rfl)
  have gLMixed := He.glo_ok X G (c.fact 7 (f := .glo "_law_mixed") rfl)
  have gLNext := He.glo_ok X G (c.fact 8 (f := .glo "_law_next") rfl)
  have gLFacts := He.glo_ok X G (c.fact 9 (f := .glo "_law_facts") rfl)
  have gLRight := He.glo_ok X G (c.fact 10 (f := .glo "_law_right") rfl)
  have gLOdd := He.glo_ok X G (c.fact 11 (f := .glo "_law_odd") rfl)
  have m_type := He.free_ok X G (c.fact 13 (f := .free "type") rfl)
  have m_int := He.free_ok X G (c.fact 14 (f := .free "int") rfl)
  have m_tuple := He.free_ok X G (c.fact 15 (f := .free "tuple") rfl)
  have m_len := He.free_ok X G (c.fact 16 (f := .free "len") rfl)
  have m_range := He.free_ok X G (c.fact 17 (f := .free "range") rfl)
  have m_repr := He.free_ok X G (c.fact 18 (f := .free "repr") rfl)
  have m_min := He.free_ok X G (c.fact 19 (f := .free "min") rfl)
  have m_max := He.free_ok X G (c.fact 20 (f := .free "max") rfl)
  have b := FunD.bindsA (ps := ["script"]) FLaw fun _ _ _ _ _ _ us hl => match us, hl with | [_], _ => rfl
  have bIsWhole : Binds K fdIsWhole ["thing", "least", "most"] [] := FunD.bindsN FIsWhole fun _ _ _ _ _ _ us hl => match us, hl with | [_, _, _], _ => rfl
  have bIsFacts : Binds K fdIsFacts ["wide", "thing"] [] := FunD.bindsN FIsFacts fun _ _ _ _ _ _ us hl => match us, hl with | [_, _], _ => rfl
  have bLeastWord : Binds K fdLeastWord ["facts"] [] := FunD.bindsN FLeastWord fun _ _ _ _ _ _ us hl => match us, hl with | [_], _ => rfl
  have bGreatestWord : Binds K fdGreatestWord ["wide", "facts"] [] := FunD.bindsN FGreatestWord fun _ _ _ _ _ _ us hl => match us, hl with | [_, _], _ => rfl
  have bWaysOf : Binds K fdWaysOf ["wide", "facts"] [] := FunD.bindsN FWaysOf fun _ _ _ _ _ _ us hl => match us, hl with | [_, _], _ => rfl
  have bFirstFacts : Binds K fdFirstFacts ["wide", "facts"] [] := FunD.bindsN FFirstFacts fun _ _ _ _ _ _ us hl => match us, hl with | [_, _], _ => rfl
  have bLBegin : Binds K fdLBegin ["script"] [] := FunD.bindsN FLBegin fun _ _ _ _ _ _ us hl => match us, hl with | [_], _ => rfl
  have bLMixed : Binds K fdLMixed ["cell", "k"] [] := FunD.bindsN FLMixed fun _ _ _ _ _ _ us hl => match us, hl with | [_, _], _ => rfl
  have bLNext : Binds K fdLNext ["draw", "many"] [] := FunD.bindsN FLNext fun _ _ _ _ _ _ us hl => match us, hl with | [_, _], _ => rfl
  have bLFacts : Binds K fdLFacts ["draw", "wide"] [] := FunD.bindsN FLFacts fun _ _ _ _ _ _ us hl => match us, hl with | [_, _], _ => rfl
  have bLRight : Binds K fdLRight ["wide", "facts"] [] := FunD.bindsN FLRight fun _ _ _ _ _ _ us hl => match us, hl with | [_, _], _ => rfl
  have bLOdd : Binds K fdLOdd ["draw", "wide", "facts"] [] := FunD.bindsN FLOdd fun _ _ _ _ _ _ us hl => match us, hl with | [_, _, _], _ => rfl
  refine ⟨fdLaw, fun s v => b s [v] rfl, fun base _ _ => ?_⟩
  have k1 : FnOk P w K mg base CX0 1 _ fdIsWhole _ _ := ok_whole FIsWhole m_type m_int
  have k2 : FnOk P w K mg base CX0 2 _ fdIsFacts _ _ := ok_isfacts FIsFacts k1 bIsWhole FIsWhole.kp gIsWhole m_type m_tuple m_len
  have k3 : FnOk P w K mg base CX0 1 _ fdLeastWord _ _ := ok_least FLeastWord
  have k4 : FnOk P w K mg base CX0 1 _ fdGreatestWord _ _ := ok_great FGreatestWord
  have k5 : FnOk P w K mg base CX0 2 _ fdWaysOf _ _ := ok_ways FWaysOf k4 bGreatestWord FGreatestWord.kp gGreatestWord k3 bLeastWord FLeastWord.kp gLeastWord
  have k6 : FnOk P w K mg base CX0 2 _ fdFirstFacts _ _ := ok_first FFirstFacts k4 bGreatestWord FGreatestWord.kp gGreatestWord
  have k7 : FnOk P w K mg base CX0 1 _ fdLBegin _ _ := ok_begin FLBegin
  have k8 : FnOk P w K mg base CX0 1 _ fdLMixed _ _ := ok_mixed FLMixed
  have k9 : FnOk P w K mg base CX0 2 _ fdLNext _ _ := ok_next FLNext k8 bLMixed FLMixed.kp gLMixed m_len
  have k10 : FnOk P w K mg base CX0 3 _ fdLFacts _ _ := ok_lfacts FLFacts k9 bLNext FLNext.kp gLNext
  have k11 : FnG P w K mg base 3 _ fdLRight _ _ := ok_lright FLRight k5 bWaysOf FWaysOf.kp gWaysOf k6 bFirstFacts FFirstFacts.kp gFirstFacts m_range m_repr m_len
  have k12 : FnOk P w K mg base CX0 3 _ fdLOdd _ _ := ok_lodd FLOdd k9 bLNext FLNext.kp gLNext m_len
  exact ok_law FLaw ⟨_, _, k7, bLBegin, FLBegin.kp, gLBegin⟩ ⟨_, _, k9, bLNext, FLNext.kp, gLNext⟩ ⟨_, _, k10, bLFacts, FLFacts.kp, gLFacts⟩ ⟨_, _, k11, bLRight, FLRight.kp, gLRight⟩ ⟨_, _, k2, bIsFacts, FIsFacts.kp, gIsFacts⟩ ⟨_, _, k12, bLOdd, FLOdd.kp, gLOdd⟩ m_range m_min m_len m_max m_tuple
end K13
open PySem PySem.W PySem.Calls PyProof.Rows
theorem PySem.Challenge.cw_bitneed_k13_ways_and_what_facts_are_holds : PySem.Challenge.rw_bitneed_k13_ways_and_what_facts_are.Holds := by
  w_on; o_law
  refine HandSHeadRun.head_any (r := OpenLaw.row PySem.Challenge.rw_bitneed_k13_ways_and_what_facts_are) (q := view (OpenLaw.row PySem.Challenge.rw_bitneed_k13_ways_and_what_facts_are).prog [15]) (H := K13.hkS) (ob := K13.ob) (M := 2000) (loose := K13.loose) (d := HandSHeadRun.topDef (OpenLaw.row PySem.Challenge.rw_bitneed_k13_ways_and_what_facts_are).prog 15) (kwd := []) K13.ob_eq
    (by kernel_rfl) (fun s => by kernel_rfl) K13.run (by kernel_rfl) (by kernel_rfl) (by kernel_rfl) (by rfl) (by first | assumption | decide +kernel) (by decide +kernel) ⟨rfl, rfl, rfl, rfl, rfl, by decide +kernel⟩ ?hw ?hc
  case hw => w_witness2
  case hc =>
    refine K13.walkG (l := PySem.Challenge.rw_bitneed_k13_ways_and_what_facts_are) (n := 63) (k := 4) (x := "script") rfl (by decide) (by kernel_rfl) ⟨rfl, by decide, by decide⟩ ?F
    intro w mg f h Y G hmg0
    obtain ⟨K, KX, c⟩ := Y
    have hmg : mg ("law" : PySem.Str) = some (.ref f) := by
      have e : (HandSHeadRun.topDef (OpenLaw.row PySem.Challenge.rw_bitneed_k13_ways_and_what_facts_are).prog 15).name = ("law" : PySem.Str) := by kernel_rfl
      rw [← e]
      exact hmg0
    obtain ⟨fd, hb, hF⟩ := K13.facts (P := (PySem.Challenge.rw_bitneed_k13_ways_and_what_facts_are).prog) (w := w) KX G hmg c
    exact ⟨K, fd, K13.spLaw K, KX, hb, hF, fun H a ns hl hS => ⟨a, ns, rfl, hS, hl, fun _ => rfl⟩⟩

