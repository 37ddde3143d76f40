import PyProof.Rows.All
import HandS.ForMost
import HandS.ExcInit
import HandS.ExcField
import HandS.ExcValue
import HandS.ExcIs
import HandS.FStr
import HandS.ClsMeth
import HandS.Ends
import PyProof.ReprRoads
import KE.KExcIs
import KE.KIsAll
import HandS.HeadHook4
import HandS.HeadWalk
import HandS.Head2
import HandS.AnyAll
import HandS.StrMore
import HandS.IsInst
import HandS.More
import HandS.Flow
import HandS.Style
import HandS.WideBits
import HandS.Text
import HandS.TupLe
import HandS.Star
import HandS.CallLocal
import KE.DatumOrd
import PyProof.ReprBulk
import HandS.Conv
import KE.IntTextLaws
import PyProof.StrLawsChain
import HandS.ForExc
import HandS.Walk
import HandS.Iter
import KE.GoesEnum
import HandS.TupMul
import HandS.RaiseMore
import PyProof.StrOps2
import HandS.Zip
import PyProof.Rows.StrCountLaw
import HandS.SetFor
import PyProof.SeqRoads2
import PySem.Challenge.RW_bitneed_k09_bounds_of_texts
set_option Elab.async false
set_option linter.all false
set_option maxRecDepth 100000
set_option maxHeartbeats 2000000
namespace K9
open PySem PySem.Spec PyProof.Rows L2
/-! ### the text -/
def top (i : Nat) : Stmt := PySem.Challenge.pw_bitneed_k09_bounds_of_texts.main.body.getD i (.Pass ⟨0, 0, 0, 0⟩)
abbrev FnP (K : PySem.W.Frag) (x : PySem.Str) (st : Stmt) (f : Addr) (fd : FuncData) : Prop := FunD K x x (defArgs st) (defBody st) (defScope st) [] [] f fd
/-! ### rules of our own -/
section
variable {X : Cx}
/-- a list that is only read, and a new one behind it -/
theorem op_catR : OpR X (binaryOp .Add) (fun x y H Q => ∃ l b xs zs, x = .ref l ∧ y = .ref b ∧ SqL X.K H l xs ∧ H b = some (.lst zs) ∧ xs.length + zs.length ≤ sizeLine ∧ ∀ p, H p = none → Q (.ref p) (upd H p (.lst (xs ++ zs)))) := by
  intro pins s σ H x y v u Q I rx ry h
  obtain ⟨l, b, xs, zs, rfl, rfl, hs, hB, hz, q⟩ := h
  cases rx
  cases ry
  obtain ⟨its, rv, ⟨o, n, ho, hc, hdn, hd⟩, hlen⟩ := I.list hs
  obtain ⟨cls, dd, data, sl⟩ := o
  obtain rfl : cls = Value.type "list" := hc
  obtain rfl : data = Data.seq its.toArray n := hd
  obtain ⟨z2, its2, n2, r2, hl2, e2⟩ := I.lstM hB
  have hl := rv.length
  have ea : its.toArray ++ its2.toArray = (its ++ its2).toArray := by simp
  refine concat_meets ⟨_, ho, rfl⟩ ⟨_, e2, rfl⟩ noFill_list_add seq_list_add PySem.F.slot_list_add PySem.F.entry_list_add (PySem.F.args_list_add_2 _ _)
    (list_addW l b its.toArray its2.toArray n n2 dd none sl #[] (by rw [List.size_toArray, List.size_toArray, ← hl, ← hl2]; exact hz)) ⟨ho, e2, ?_⟩
  rw [ea]
  exact ⟨.ref _, _, I.lnew (t' := s.toks) (rv.append r2) (by rw [List.length_append]; exact hz), rfl, q _ I.fresh⟩
end
/-- a def whose code object is told -/
theorem okC {P : Program} {w : World} {K : PySem.W.Frag} {mg : PySem.Str → Option Value} {base : Heap} {x : PySem.Str} {st : Stmt} {fd : FuncData} {N ps : List PySem.Str} {k : Nat} {sp : Sp} {p : PySem.Str × Option PySem.Str} (F : FnP K x st (He.fAd K p) fd) (S : FnScope N ps (defScope st))
    (len : ∀ vs H Q E, sp vs H Q E → vs.length = ps.length)
    (hbody : ∀ (A : Around) (outer : List Env) (s : Shared) (H : Hp) (vs : List V) (Q : VK) (E : XK), Room k (A.deeper (envOfC x (defScope st) s.heap.objs.size (He.fAd K p) (.ref (He.codeOf K p)))) → sp vs H Q E →
      ∃ t, PSs (cxOf CX0 P w K mg base N x (defScope st) (He.fAd K p) (.ref (He.codeOf K p)) A outer s H E).nox (defBody st) t ∧ t { nx := fun _ H' => Q .non H', rt := Q } (start N vs) H) : FnOk P w K mg base CX0 (k + 1) (He.fAd K p) fd ps sp := by
  obtain ⟨oc, od, dV, kV, doc, pm, an, cdv, ct, osl, rfl, lk, hcd, _, _⟩ := F.ex
  obtain ⟨c, rfl⟩ := He.codeIn_ref hcd
  have e : He.codeOf K p = c := He.codeOf_eq lk rfl
  subst e
  refine fn_of lk hcd S len fun A outer s H vs Q E hr hsp => ?_
  obtain ⟨t, h, q⟩ := hbody A outer s H vs Q E hr hsp
  exact ⟨t, h.nox, q⟩
/-! ### what stays -/
/-- an object of the heap ahead, as it may stand behind: tables may have grown -/
def Ko (o : HO) (x : Option HO) : Prop := match o with
  | .tbl ps => ∃ qs, x = some (.tbl qs) ∧ (TriplesOk ps.toList → TriplesOk qs.toList)
  | o => x = some o
theorem ko_refl (o : HO) : Ko o (some o) := by
  cases o <;> first | rfl | exact ⟨_, rfl, fun h => h⟩
theorem ko_some {o : HO} {x : Option HO} (h : Ko o x) : ∃ u, x = some u := by
  cases o <;> first | exact ⟨_, h⟩ | (obtain ⟨qs, e, _⟩ := h; exact ⟨_, e⟩)
theorem ko_trans {o : HO} {x y : Option HO} (h : Ko o x) (k : ∀ u, x = some u → Ko u y) : Ko o y := by
  cases o <;> first | exact k _ h | (obtain ⟨qs, e, z⟩ := h; obtain ⟨rs, e2, z2⟩ := k _ e; exact ⟨rs, e2, fun q => z2 (z q)⟩)
/-- all that was tracked stands, but what stands at the addresses for which D holds -/
def Kept (D : Addr → Prop) (H H' : Hp) : Prop := ∀ b o, H b = some o → ¬ D b → Ko o (H' b)
theorem Kept.refl {D : Addr → Prop} {H : Hp} : Kept D H H := fun b o e _ => by rw [e]; exact ko_refl o
theorem Kept.trans {D : Addr → Prop} {H H1 H2 : Hp} (a : Kept D H H1) (b : Kept D H1 H2) : Kept D H H2 := fun c o e n => ko_trans (a c o e n) fun u q => b c u q n
theorem Kept.weak {D D' : Addr → Prop} {H H1 : Hp} (a : Kept D H H1) (h : ∀ b, D b → D' b) : Kept D' H H1 := fun c o e n => a c o e fun d => n (h c d)
theorem Kept.new {D : Addr → Prop} {H H1 : Hp} {p : Addr} {o : HO} (a : Kept D H H1) (n : H p = none) : Kept D H (upd H1 p o) := fun c u e d => by
  rw [upd_ne (ne_of_none e n)]
  exact a c u e d
theorem Kept.upd {D : Addr → Prop} {H H1 : Hp} {p : Addr} {o : HO} (a : Kept D H H1) (d : D p) : Kept D H (upd H1 p o) := fun c u e n => by
  rw [upd_ne (fun z => n (by rw [z]; exact d))]
  exact a c u e n
abbrev None : Addr → Prop := fun _ => False
theorem Kept.free {H H1 : Hp} (a : Kept None H H1) {p : Addr} (h : H1 p = none) : H p = none := by
  cases e : H p with
  | none => rfl
  | some o =>
    obtain ⟨u, q⟩ := ko_some (a p o e (fun z => z))
    rw [h] at q
    cases q
theorem Kept.lst {D : Addr → Prop} {H H1 : Hp} (a : Kept D H H1) {p : Addr} {xs : List V} (h : H p = some (.lst xs)) (n : ¬ D p) : H1 p = some (.lst xs) := a p _ h n
theorem Kept.tup {D : Addr → Prop} {H H1 : Hp} (a : Kept D H H1) {p : Addr} {xs : List V} (h : H p = some (.tup xs)) (n : ¬ D p) : H1 p = some (.tup xs) := a p _ h n
theorem Kept.dK {D : Addr → Prop} {H H1 : Hp} (a : Kept D H H1) {p : Addr} {kvs : List (Key × V)} (h : H p = some (.dK kvs)) (n : ¬ D p) : H1 p = some (.dK kvs) := a p _ h n
theorem Kept.frz {D : Addr → Prop} {H H1 : Hp} (a : Kept D H H1) {p : Addr} {o : Obj} {u : HO} (h : H p = some (.frz o u)) (n : ¬ D p) : H1 p = some (.frz o u) := a p _ h n
theorem Kept.tab {D : Addr → Prop} {H H1 : Hp} (a : Kept D H H1) {p : Addr} (h : GxR.TabG H p) (n : ¬ D p) : GxR.TabG H1 p := by
  obtain ⟨ps, e, z⟩ := h
  obtain ⟨qs, e2, z2⟩ := a p _ e n
  exact ⟨qs, e2, z2 z⟩
theorem Kept.sql {K : PySem.W.Frag} {D : Addr → Prop} {H H1 : Hp} (a : Kept D H H1) {p : Addr} {xs : List V} (h : SqL K H p xs) (n : ¬ D p) : SqL K H1 p xs := by
  rcases h with (h | ⟨o, h⟩) | h
  · exact .inl (.inl (a.lst h n))
  · exact .inl (.inr ⟨o, a.frz h n⟩)
  · exact .inr h
theorem Kept.of_tabbed {P : Addr} {H H1 : Hp} (t : GxR.TabG H P) (h : GxR.Tabbed P H H1) : Kept None H H1 := fun b o e _ => by
  by_cases hb : b = P
  · subst hb
    obtain ⟨ps, e1, z1⟩ := t
    obtain ⟨⟨qs, e2, z2⟩, _⟩ := h
    rw [e1] at e
    cases e
    exact ⟨qs, e2, fun _ => z2⟩
  · rw [h.2 b hb, e]
    exact ko_refl o
end K9

set_option Elab.async false
set_option linter.all false
set_option maxRecDepth 100000
set_option maxHeartbeats 2000000
namespace K9
open PySem PySem.Spec PyProof.Rows L2
/-! ### the draws -/
abbrev sBegin : Stmt := top 37
abbrev sMixed : Stmt := top 38
abbrev sNext : Stmt := top 39
theorem scBegin : FnScope ["script"] ["script"] (defScope sBegin) := ⟨rfl, rfl, rfl, by decide +kernel, rfl, by decide +kernel, by decide +kernel⟩
theorem scMixed : FnScope ["cell", "k", "number"] ["cell", "k"] (defScope sMixed) := ⟨rfl, rfl, rfl, by decide +kernel, rfl, by decide +kernel, by decide +kernel⟩
theorem scNext : FnScope ["draw", "many", "found", "cells", "cell"] ["draw", "many"] (defScope sNext) := ⟨rfl, rfl, rfl, by decide +kernel, rfl, by decide +kernel, by decide +kernel⟩
/-- the draw's pairs -/
def drK (c : Addr) (a l u : Int) : List (Key × V) := [(.inr "cells", .ref c), (.inr "at", .int a), (.inr "left", .int l), (.inr "used", .int u)]
theorem kn {x y : PySem.Str} (h : ¬ x = y) : ¬ (Sum.inr x : Key) = Sum.inr y := fun e => h (Sum.inr.inj e)
theorem n1 : ¬ (("cells" : PySem.Str) = "at") := by decide +kernel
theorem n2 : ¬ (("cells" : PySem.Str) = "left") := by decide +kernel
theorem n3 : ¬ (("cells" : PySem.Str) = "used") := by decide +kernel
theorem n4 : ¬ (("at" : PySem.Str) = "left") := by decide +kernel
theorem n5 : ¬ (("at" : PySem.Str) = "used") := by decide +kernel
theorem n6 : ¬ (("left" : PySem.Str) = "used") := by decide +kernel
theorem g_cells (c : Addr) (a l u : Int) : valV (drK c a l u) (Sum.inr "cells" : Key) = some (.ref c) := valV_pos rfl
theorem g_at (c : Addr) (a l u : Int) : valV (drK c a l u) (Sum.inr "at" : Key) = some (.int a) := (valV_neg (kn n1)).trans (valV_pos rfl)
theorem g_left (c : Addr) (a l u : Int) : valV (drK c a l u) (Sum.inr "left" : Key) = some (.int l) := (valV_neg (kn n2)).trans ((valV_neg (kn n4)).trans (valV_pos rfl))
theorem g_used (c : Addr) (a l u : Int) : valV (drK c a l u) (Sum.inr "used" : Key) = some (.int u) := (valV_neg (kn n3)).trans ((valV_neg (kn n5)).trans ((valV_neg (kn n6)).trans (valV_pos rfl)))
theorem p_at (c : Addr) (a l u z : Int) : putK (drK c a l u) (Sum.inr "at" : Key) (.int z) = drK c z l u := by
  unfold putK
  rw [if_pos (by rw [valV_any, g_at]; rfl)]
  unfold drK
  simp only [List.map_cons, List.map_nil, if_neg (kn n1), if_pos rfl, if_neg (kn (fun e => n4 e.symm)), if_neg (kn (fun e => n5 e.symm))]
  rfl
theorem p_left (c : Addr) (a l u z : Int) : putK (drK c a l u) (Sum.inr "left" : Key) (.int z) = drK c a z u := by
  unfold putK
  rw [if_pos (by rw [valV_any, g_left]; rfl)]
  unfold drK
  simp only [List.map_cons, List.map_nil, if_neg (kn n2), if_pos rfl, if_neg (kn n4), if_neg (kn (fun e => n6 e.symm))]
  rfl
theorem p_used (c : Addr) (a l u z : Int) : putK (drK c a l u) (Sum.inr "used" : Key) (.int z) = drK c a l z := by
  unfold putK
  rw [if_pos (by rw [valV_any, g_used]; rfl)]
  unfold drK
  simp only [List.map_cons, List.map_nil, if_neg (kn n3), if_pos rfl, if_neg (kn n5), if_neg (kn n6)]
  rfl
/-- a draw at d, its cells at c, at most n numbers drawn -/
structure Dr (H : Hp) (d c : Addr) (ns : List Int) (n : Nat) : Prop where
  at_ : ∃ a l u : Int, H d = some (.dK (drK c a l u)) ∧ 0 ≤ a ∧ a ≤ (n : Int) ∧ 0 ≤ l ∧ 0 ≤ u ∧ u ≤ (n : Int)
  cs : H c = some (.lst (ns.map V.int))
  ne : 1 ≤ ns.length ∧ ns.length ≤ 64
theorem Dr.dc {H : Hp} {d c : Addr} {ns : List Int} {n : Nat} (D : Dr H d c ns n) : c ≠ d := by
  obtain ⟨a, l, u, h, _⟩ := D.at_
  exact ne_of D.cs h (by intro z; cases z)
/-- only the draw may change -/
abbrev At (d : Addr) : Addr → Prop := fun b => b = d
theorem Dr.stay {H H1 : Hp} {d c : Addr} {ns : List Int} {n : Nat} (D : Dr H d c ns n) (k : Kept None H H1) : Dr H1 d c ns n := by
  obtain ⟨a, l, u, h, r⟩ := D.at_
  exact ⟨⟨a, l, u, k.dK h (fun z => z), r⟩, k.lst D.cs (fun z => z), D.ne⟩
theorem Dr.more {H : Hp} {d c : Addr} {ns : List Int} {n m : Nat} (D : Dr H d c ns n) (h : n ≤ m) : Dr H d c ns m := by
  obtain ⟨a, l, u, e, h1, h2, h3, h4, h5⟩ := D.at_
  exact ⟨⟨a, l, u, e, h1, by omega, h3, h4, by omega⟩, D.cs, D.ne⟩
theorem Dr.new {H : Hp} {d c p : Addr} {o : HO} {ns : List Int} {n : Nat} (D : Dr H d c ns n) (h : H p = none) : Dr (upd H p o) d c ns n := D.stay (Kept.refl.new h)
/-- a new address is new for what stood ahead, too -/
theorem At.free {H H1 : Hp} {d c : Addr} {ns : List Int} {n : Nat} (k : Kept (At d) H H1) (D : Dr H1 d c ns n) {p : Addr} (h : H1 p = none) : H p = none := by
  cases e : H p with
  | none => rfl
  | some o =>
    have hp : ¬ p = d := fun z => by
      obtain ⟨a, l, u, q, _⟩ := D.at_
      rw [z, q] at h
      cases h
    obtain ⟨u, q⟩ := ko_some (k p o e hp)
    rw [h] at q
    cases q
def spBegin (K : PySem.W.Frag) : Sp := fun vs H Q _ => ∃ (a : Addr) (ns : List Int), vs = [.ref a] ∧ SqL K H a (ns.map V.int) ∧ ns.length ≤ 63 ∧ ∀ d c H', H d = none → Kept None H H' → Dr H' d c (ns ++ [0]) 0 → Q (.ref d) H'
def spMixed : Sp := fun vs H Q _ => ∃ (x k : Int), vs = [.int x, .int k] ∧ 0 ≤ k ∧ k ≤ 1152921504606846976 ∧ ∀ r : Int, 0 ≤ r → Q (.int r) H
def spNext : Sp := fun vs H Q _ => ∃ (d c : Addr) (ns : List Int) (n : Nat) (m : Int), vs = [.ref d, .int m] ∧ Dr H d c ns n ∧ n ≤ 1000000000 ∧ 1 ≤ m ∧ m < 1073741824 ∧ ∀ (r : Int) H', 0 ≤ r → r < m → Kept (At d) H H' → Dr H' d c ns (n + 1) → Q (.int r) H'
section
variable {P : Program} {w : World} {K : PySem.W.Frag} {mg : PySem.Str → Option Value} {base : Heap} {f fM fN : Addr} {fd fdM fdN : FuncData}
theorem ok_begin (F : FnP K "_law_begin" sBegin f fd) : FnOk P w K mg base CX0 1 f fd ["script"] (spBegin K) := by
  refine F.ok (k := 0) scBegin (fun vs H Q E h => ?_) (fun cdv A outer s H vs Q E hr h => ?_)
  · obtain ⟨a, ns, rfl, _⟩ := h
    rfl
  · obtain ⟨a, ns, rfl, hS, hl, q⟩ := h
    refine ⟨_, PSs.nox (pss_one (ps_ret (pe_disp (pps_cons pe_str (pe_op op_catR (pv 0) (pe_lst (pa_cons pe_int pa_nil))) (pps_cons pe_str pe_int (pps_cons pe_str pe_int (pps_cons pe_str pe_int pps_nil)))) (by rfl) (by rfl) (fun z => by cases z) (by decide)))), ?_⟩
    refine fun d hd => ⟨.ref a, rfl, by show 1 ≤ sizeLine; decide, fun b hb => ?_⟩
    have k1 : Kept None H (upd H d (.dK [])) := Kept.refl.new hd
    have k2 : Kept None (upd H d (.dK [])) (upd (upd H d (.dK [])) b (.lst [.int 0])) := Kept.refl.new hb
    refine ⟨a, b, ns.map V.int, [.int 0], rfl, rfl, (k1.trans k2).sql hS (fun z => z), upd_same, ?_, fun c hc => ?_⟩
    · rw [List.length_map, sizeLine_eq]
      simp only [List.length_cons, List.length_nil]
      omega
    · have hdb : d ≠ b := fun e => by
        rw [← e, upd_same] at hb
        cases hb
      have hdc : d ≠ c := fun e => by
        rw [← e, upd_ne hdb, upd_same] at hc
        cases hc
      have k3 : Kept None (upd (upd H d (.dK [])) b (.lst [.int 0])) (upd (upd (upd H d (.dK [])) b (.lst [.int 0])) c (.lst (ns.map V.int ++ [.int 0]))) := Kept.refl.new hc
      refine ⟨by rw [upd_ne hdc, upd_ne hdb, upd_same], drK c 0 0 0, rfl, by show 4 ≤ 15; decide, ?_⟩
      have em : mergeK [] (drK c 0 0 0) = drK c 0 0 0 := by
        unfold mergeK drK
        simp [putK, kn n1, kn n2, kn n3, kn n4, kn n5, kn n6, n1, n2, n3, n4, n5, n6]
      rw [em]
      refine q d c _ hd ?_ ⟨⟨0, 0, 0, upd_same, by omega, by omega, by omega, by omega, by omega⟩, ?_, by rw [List.length_append]; simp only [List.length_cons, List.length_nil]; omega⟩
      · intro x o e n
        have hx : x ≠ d := ne_of_none e hd
        rw [upd_ne hx]
        exact ((k1.trans k2).trans k3) x o e n
      · rw [upd_ne (Ne.symm hdc), upd_same, List.map_append]
        rfl
theorem ok_mixed (F : FnP K "_law_mixed" sMixed f fd) : FnOk P w K mg base CX0 1 f fd ["cell", "k"] spMixed := by
  refine F.ok (k := 0) scMixed (fun vs H Q E h => ?_) (fun cdv A outer s H vs Q E hr h => ?_)
  · obtain ⟨x, k, rfl, _⟩ := h
    rfl
  · obtain ⟨x, k, rfl, h0, h1, q⟩ := h
    refine ⟨_, PSs.nox (pss_cons (ps_set (i := 2) scMixed.nd rfl (Or.inl rfl) (pe_op op_mod (pe_op op_add (pe_op op_add (pe_op op_add (pe_op op_mod (pv 0) pe_int) (pe_op op_mul (pe_op op_mul pe_int (pv 1)) (pv 1))) (pe_op op_mul pe_int (pv 1))) pe_int) pe_int))
      (pss_cons (ps_set (i := 2) scMixed.nd rfl (Or.inl rfl) (pe_op op_mod (pe_op op_mul (pe_op op_mod (pe_op op_mul (pv 2) (pv 2)) pe_int) (pv 2)) pe_int))
      (pss_one (ps_ret (pe_op op_fdiv (pe_op op_mod (pe_op op_mul (pv 2) (pe_op op_add pe_int (pe_op op_mul pe_int (pe_op op_mod (pv 1) pe_int)))) pe_int) pe_int))))), ?_⟩
    refine ⟨.int x, rfl, x, 1000000007, rfl, rfl, (by show (0 : Int) < 1000000007; decide), .int k, rfl, 7919, k, rfl, rfl, .inl ⟨by decide, by decide⟩, .int k, rfl, _, k, rfl, rfl, .inr ⟨by omega, by omega⟩, _, _, rfl, rfl, .int k, rfl, 31, k, rfl, rfl, .inl ⟨by decide, by decide⟩, _, _, rfl, rfl, _, _, rfl, rfl, _, _, rfl, rfl, (by show (0 : Int) < 2147483647; decide), ?_⟩
    dsimp only
    generalize hy : (x % 1000000007 + 7919 * k * k + 31 * k + 7) % 2147483647 = y
    have y0 : 0 ≤ y := by rw [← hy]; exact Int.emod_nonneg _ (by decide)
    have y1 : y < 2147483647 := by rw [← hy]; exact Int.emod_lt_of_pos _ (by decide)
    refine ⟨.int y, rfl, .int y, rfl, y, y, rfl, rfl, .inl ⟨by omega, by omega⟩, _, _, rfl, rfl, (by show (0 : Int) < 2147483647; decide), .int y, rfl, _, y, rfl, rfl, .inr ⟨by omega, by omega⟩, _, _, rfl, rfl, (by show (0 : Int) < 2147483629; decide), ?_⟩
    dsimp only
    generalize hz : (y * y % 2147483647 * y) % 2147483629 = z
    have z0 : 0 ≤ z := by rw [← hz]; exact Int.emod_nonneg _ (by decide)
    have z1 : z < 2147483629 := by rw [← hz]; exact Int.emod_lt_of_pos _ (by decide)
    refine ⟨.int z, rfl, .int k, rfl, k, 1000, rfl, rfl, (by show (0 : Int) < 1000; decide), 2, _, rfl, rfl, .inl ⟨by decide, by decide⟩, _, _, rfl, rfl, z, _, rfl, rfl, .inl ⟨by omega, by omega⟩, _, _, rfl, rfl, (by show (0 : Int) < 2147483647; decide), _, _, rfl, rfl, ⟨by show (0 : Int) < 7; decide, by show (7 : Int) < 1073741824; decide⟩, ?_⟩
    exact q _ (Int.ediv_nonneg (Int.emod_nonneg _ (by decide)) (by decide))
end
end K9

set_option Elab.async false
set_option linter.all false
set_option maxRecDepth 100000
set_option maxHeartbeats 2000000
namespace K9
open PySem PySem.Spec PyProof.Rows L2
section
variable {H : Hp} {d c : Addr} {a l u z : Int}
theorem gd_cells (h : H d = some (.dK (drK c a l u))) : DGet H d (.str "cells") (some (.ref c)) := by rw [← g_cells c a l u]; exact DGet.k (k := Sum.inr "cells") h
theorem gd_at (h : H d = some (.dK (drK c a l u))) : DGet H d (.str "at") (some (.int a)) := by rw [← g_at c a l u]; exact DGet.k (k := Sum.inr "at") h
theorem gd_left (h : H d = some (.dK (drK c a l u))) : DGet H d (.str "left") (some (.int l)) := by rw [← g_left c a l u]; exact DGet.k (k := Sum.inr "left") h
theorem gd_used (h : H d = some (.dK (drK c a l u))) : DGet H d (.str "used") (some (.int u)) := by rw [← g_used c a l u]; exact DGet.k (k := Sum.inr "used") h
theorem four : (drK c a l u).length < sizeLine := by show 4 < sizeLine; decide
theorem pd_at (h : H d = some (.dK (drK c a l u))) : DPut H d (.str "at") (.int z) (upd H d (.dK (drK c z l u))) := by rw [← p_at c a l u z]; exact DPut.k (k := Sum.inr "at") h four
theorem pd_left (h : H d = some (.dK (drK c a l u))) : DPut H d (.str "left") (.int z) (upd H d (.dK (drK c a z u))) := by rw [← p_left c a l u z]; exact DPut.k (k := Sum.inr "left") h four
theorem pd_used (h : H d = some (.dK (drK c a l u))) : DPut H d (.str "used") (.int z) (upd H d (.dK (drK c a l z))) := by rw [← p_used c a l u z]; exact DPut.k (k := Sum.inr "used") h four
end
section
variable {P : Program} {w : World} {K : PySem.W.Frag} {mg : PySem.Str → Option Value} {base : Heap} {f fM fN : Addr} {fd fdM fdN : FuncData}
theorem ok_next (F : FnP K "_law_next" sNext f fd) (GM : FnOk P w K mg base CX0 1 fM fdM ["cell", "k"] spMixed) (bM : Binds K fdM ["cell", "k"] []) (kM : PySem.W.keepIn K (.ref fM) = true) (gM : mg "_law_mixed" = some (.ref fM)) (m1 : mg "len" = none) :
    FnOk P w K mg base CX0 2 f fd ["draw", "many"] spNext := by
  refine F.ok (k := 1) scNext (fun vs H Q E h => ?_) (fun cdv A outer s H vs Q E hr h => ?_)
  · obtain ⟨d, c, ns, n, m, rfl, _⟩ := h
    rfl
  · obtain ⟨d, c, ns, n, m, rfl, D, hn, m0, m1', q⟩ := h
    have hu := hu_of hr
    refine ⟨_, PSs.nox (pss_cons (ps_if (pt_cmpR op_gt (pe_dget hu (pv 0) pe_str (fun _ _ => rfl)) pe_int (nomark _))
        (pss_cons (ps_set (i := 2) scNext.nd rfl (Or.inl rfl) (pe_op op_mod (pe_dget hu (pv 0) pe_str (fun _ _ => rfl)) (pv 1)))
        (pss_cons (ps_dput hu (pv 0) pe_str (pe_op op_fdiv (pe_dget hu (pv 0) pe_str (fun _ _ => rfl)) (pv 1)) rfl)
        (pss_one (ps_ret (pv 2))))) pss_nil)
      (pss_cons (ps_set (i := 3) scNext.nd rfl (Or.inl rfl) (pe_dget hu (pv 0) pe_str (fun _ _ => rfl)))
      (pss_cons (ps_set (i := 4) scNext.nd rfl (Or.inl rfl) (pe_ix ix_list (pv 3) (pe_op op_mod (pe_dget hu (pv 0) pe_str (fun _ _ => rfl)) (pe_callB call_len_seq (by rfl) m1 PySem.boot_len (pa_cons (pv 3) pa_nil))) (fun _ _ => rfl)))
      (pss_cons (ps_dput hu (pv 0) pe_str (pe_op op_add (pe_dget hu (pv 0) pe_str (fun _ _ => rfl)) pe_int) rfl)
      (pss_cons (ps_if (PW.pt (pw_and (pt_cmpR op_ge (pv 4) (pe_op op_pow pe_int pe_int) (nomark _)) (pw_and1 (pt_cmpR op_le (pe_dget hu (pv 0) pe_str (fun _ _ => rfl)) (pe_callB call_len_seq (by rfl) m1 PySem.boot_len (pa_cons (pv 3) pa_nil)) (nomark _)))))
        (pss_cons (ps_dput hu (pv 0) pe_str (pe_op op_fdiv (pv 4) (pv 1)) rfl) (pss_one (ps_ret (pe_op op_mod (pv 4) (pv 1))))) pss_nil)
      (pss_cons (ps_dput hu (pv 0) pe_str (pe_op op_add (pe_dget hu (pv 0) pe_str (fun _ _ => rfl)) pe_int) rfl)
      (pss_one (ps_ret (pe_op op_mod (pe_call GM hr (by rfl) gM kM bM .nil pass0 (pa_cons (by exact (pe_call GM hr (by rfl) gM kM bM .nil pass0 (pa_cons (pv 4) (pa_cons (pe_dget hu (pv 0) pe_str (fun _ _ => rfl)) pa_nil)))) (pa_cons (pe_dget hu (pv 0) pe_str (fun _ _ => rfl)) pa_nil))) (pv 1)))))))))), ?_⟩
    obtain ⟨a, l, u, hd, a0, a1, l0, u0, u1⟩ := D.at_
    have dc := D.dc
    refine ⟨.ref d, rfl, d, .int l, rfl, gd_left hd, l, 0, rfl, rfl, _, rfl, ite2 (fun hl => ?_) (fun hl => ?_)⟩
    · have hl' : 0 < l := of_decide_eq_true hl
      refine ⟨.ref d, rfl, d, .int l, rfl, gd_left hd, .int m, rfl, l, m, rfl, rfl, (by show 0 < m; omega), ?_⟩
      refine ⟨.ref d, rfl, d, .int l, rfl, gd_left hd, .int m, rfl, l, m, rfl, rfl, ⟨by omega, by omega⟩, .ref d, rfl, d, _, rfl, pd_left hd, ?_⟩
      refine ⟨.int (l % m), rfl, ?_⟩
      refine q (l % m) _ (Int.emod_nonneg _ (by omega)) (Int.emod_lt_of_pos _ (by omega)) (Kept.refl.upd rfl) ⟨⟨a, l / m, u, upd_same, a0, by omega, Int.ediv_nonneg l0 (by omega), u0, by omega⟩, by rw [upd_ne dc]; exact D.cs, D.ne⟩
    · have hL : (ns.map V.int).length = ns.length := List.length_map ..
      obtain ⟨h1, h64⟩ := D.ne
      refine ⟨.ref d, rfl, d, .ref c, rfl, gd_cells hd, ?_⟩
      have j0 : 0 ≤ a % (ns.length : Int) := Int.emod_nonneg _ (by omega)
      have j1 : a % (ns.length : Int) < (ns.length : Int) := Int.emod_lt_of_pos _ (by omega)
      obtain ⟨j, hj⟩ : ∃ j : Nat, a % (ns.length : Int) = (j : Int) := ⟨(a % (ns.length : Int)).toNat, by omega⟩
      have hjl : j < ns.length := by omega
      have hat : atI (ns.map V.int) (a % (((ns.map V.int).length : Nat) : Int)) = some (.int ns[j]) := by
        rw [hL, hj]
        exact atI_nat (j := j) (by rw [List.getElem?_map, List.getElem?_eq_getElem hjl]; rfl)
      refine ⟨.ref c, rfl, .ref d, rfl, d, .int a, rfl, gd_at hd, .ref c, rfl, c, ns.map V.int, rfl, .inl (.inl (.inl D.cs)), a, _, rfl, rfl, (by rw [hL]; omega), c, ns.map V.int, _, .int ns[j], rfl, rfl, .inl (.inl D.cs), hat, ?_⟩
      refine ⟨.ref d, rfl, d, .int a, rfl, gd_at hd, a, 1, rfl, rfl, .ref d, rfl, d, _, rfl, pd_at hd, ?_⟩
      have hd1 : upd H d (.dK (drK c (a + 1) l u)) d = some (.dK (drK c (a + 1) l u)) := upd_same
      have hc1 : upd H d (.dK (drK c (a + 1) l u)) c = some (.lst (ns.map V.int)) := by rw [upd_ne dc]; exact D.cs
      have kk1 : Kept (At d) H (upd H d (.dK (drK c (a + 1) l u))) := Kept.refl.upd rfl
      generalize upd H d (.dK (drK c (a + 1) l u)) = H1 at hd1 hc1 kk1 ⊢
      -- the last way
      have last : tSeq (sDPut (tVar 0) (tC (.str "used")) (tOp (rI0 fun i j => .int (i + j)) (tDGet (tVar 0) (tC (.str "used"))) (tC (.int 1)))) (tRet (tOp (rI (fun _ j => 0 < j) fun i j => .int (i % j)) (tCall spMixed [] E0 (tCons (tCall spMixed [] E0 (tCons (tVar 4) (tCons (tDGet (tVar 0) (tC (.str "at"))) tNil))) (tCons (tDGet (tVar 0) (tC (.str "used"))) tNil))) (tVar 1)))
          { nx := fun _ H' => Q .non H', rt := Q } [some (.ref d), some (.int m), none, some (.ref c), some (.int ns[j])] H1 := by
        refine ⟨.ref d, rfl, d, .int u, rfl, gd_used hd1, u, 1, rfl, rfl, .ref d, rfl, d, _, rfl, pd_used hd1, ?_⟩
        have hd2 : upd H1 d (.dK (drK c (a + 1) l (u + 1))) d = some (.dK (drK c (a + 1) l (u + 1))) := upd_same
        have hc2 : upd H1 d (.dK (drK c (a + 1) l (u + 1))) c = some (.lst (ns.map V.int)) := by rw [upd_ne dc]; exact hc1
        have kk2 : Kept (At d) H (upd H1 d (.dK (drK c (a + 1) l (u + 1)))) := kk1.upd rfl
        generalize upd H1 d (.dK (drK c (a + 1) l (u + 1))) = H2 at hd2 hc2 kk2 ⊢
        refine ⟨.int ns[j], rfl, .ref d, rfl, d, .int (a + 1), rfl, gd_at hd2, ns[j], a + 1, rfl, by omega, by omega, fun r1 hr1 => ?_⟩
        refine ⟨.ref d, rfl, d, .int (u + 1), rfl, gd_used hd2, r1, u + 1, rfl, by omega, by omega, fun r2 hr2 => ?_⟩
        refine ⟨.int m, rfl, r2, m, rfl, rfl, (by show 0 < m; omega), ?_⟩
        exact q (r2 % m) H2 (Int.emod_nonneg _ (by omega)) (Int.emod_lt_of_pos _ (by omega)) kk2 ⟨⟨a + 1, l, u + 1, hd2, by omega, by omega, l0, by omega, by omega⟩, hc2, D.ne⟩
      refine ⟨.int ns[j], rfl, 10, 18, rfl, rfl, ⟨by decide, by decide, by decide⟩, ns[j], _, rfl, rfl, _, rfl, ite2 (fun hge => ?_) (fun hge => ?_)⟩
      · refine ⟨.ref d, rfl, d, .int (a + 1), rfl, gd_at hd1, .ref c, rfl, c, ns.map V.int, rfl, .inl (.inl (.inl hc1)), a + 1, _, rfl, rfl, _, rfl, ite2 (fun hle => ?_) (fun hle => ?_)⟩
        · have hbig : (10 : Int) ^ (18 : Int).toNat ≤ ns[j] := of_decide_eq_true hge
          have hpos : (0 : Int) ≤ ns[j] := Int.le_trans (by decide) hbig
          refine ⟨.int ns[j], rfl, .int m, rfl, ns[j], m, rfl, rfl, ⟨by omega, by omega⟩, .ref d, rfl, d, _, rfl, pd_left hd1, ?_⟩
          refine ⟨.int ns[j], rfl, .int m, rfl, ns[j], m, rfl, rfl, (by show 0 < m; omega), ?_⟩
          exact q (ns[j] % m) _ (Int.emod_nonneg _ (by omega)) (Int.emod_lt_of_pos _ (by omega)) (kk1.upd rfl) ⟨⟨a + 1, ns[j] / m, u, upd_same, by omega, by omega, Int.ediv_nonneg hpos (by omega), u0, by omega⟩, by rw [upd_ne dc]; exact hc1, D.ne⟩
        · exact last
      · exact iteF last
end
end K9

set_option Elab.async false
set_option linter.all false
set_option maxRecDepth 100000
set_option maxHeartbeats 2000000
namespace K9
open PySem PySem.Spec PyProof.Rows L2
section
variable {X : Cx}
/-- repr(x), x a list or a tuple -/
def rRepr (K : PySem.W.Frag) : List V → Hp → VK → Prop := fun xs H Q => ∃ (a : Addr) (d : PyData), xs = [.ref a] ∧ Dp K H (.ref a) d ∧ d.showable = true ∧ d.hasDict = false ∧ d.depth ≤ 100 ∧ d.shown.length ≤ sizeLine ∧ Q (.str d.shown) H
theorem call_reprL (hg : X.A.guards = some []) {k : Nat} (hr : Room k X.A) : CallR X (.builtin "repr") (rRepr X.K) := by
  intro pins s σ H xs us Q I r h
  obtain ⟨a, d, rfl, hD, hs, hn, h1, hz, q⟩ := h
  cases r with
  | cons rx rr =>
    cases rr
    cases rx
    obtain ⟨as, R⟩ := Dp.reads I d _ _ hD rfl
    refine repr_of_reads' R hs (fun z => by rw [hn] at z; cases z) hg (by have := hr.un; omega) (fun _ _ z => z) (fun h' u tk kp => ?_) hz
    exact ⟨.str d.shown, H, I.kept (t' := tk) kp, ⟨_, rfl⟩, q⟩
end
end K9

set_option Elab.async false
set_option linter.all false
set_option maxRecDepth 100000
set_option maxHeartbeats 2000000
namespace K9
open PySem PySem.Spec PyProof.Rows L2
/-! ### defs whose promise wants that no text of a thing is under way (repr) -/
structure FnG (P : Program) (w : World) (K : PySem.W.Frag) (mg : PySem.Str → Option Value) (base : Heap) (k : Nat) (f : Addr) (fd : FuncData) (ps : List PySem.Str) (sp : Sp) : Prop where
  len : ∀ vs H Q E, sp vs H Q E → vs.length = ps.length
  go : ∀ (A : Around) (outer : List Env) (s : Shared) (H : Hp) (ar : Args) (us : List Value) (vs : List V) (Q : VK) (E : XK), A.guards = some [] → Room k A → Env0 P w K mg base A outer s H → BindsTo s fd ar (ps.zip us) → Vals vs us → sp vs H Q E →
    codeAny (model P w) A (.call (.ref f) ar) (CR CX0 outer P w H s Q E) s
/-- by the body -/
theorem fnG_of {P : Program} {w : World} {K : PySem.W.Frag} {mg : PySem.Str → Option Value} {base : Heap} {x : PySem.Str} {st : Stmt} {f : Addr} {fd : FuncData} {N ps : List PySem.Str} {k : Nat} {sp : Sp} (F : FnP K x st f fd) (S : FnScope N ps (defScope st))
    (len : ∀ vs H Q E, sp vs H Q E → vs.length = ps.length)
    (body : ∀ (cdv : Value) (A : Around) (outer : List Env) (s : Shared) (H : Hp) (vs : List V) (Q : VK) (E : XK), A.guards = some [] → Room k (A.deeper (envOfC x (defScope st) s.heap.objs.size f cdv)) → sp vs H Q E →
      ∃ t, PSs (cxOf CX0 P w K mg base N x (defScope st) f cdv A outer s H E) (defBody st) t ∧ t { nx := fun _ H' => Q .non H', rt := Q } (start N vs) H) : FnG P w K mg base (k + 1) f fd ps sp := by
  obtain ⟨oc, od, dV, kV, doc, pm, an, cdv, ct, osl, rfl, look, code, _, _⟩ := F.ex
  refine ⟨len, fun A outer s H ar us vs Q E gd room e0 bnd rel spq => ?_⟩
  have inK : K.In s.heap := e0.mod.kin.keeps fun b o z => (e0.bs b o z).1
  have kinds : ∀ y ∈ ps.zip us, (defScope st).names.lookup y.1 = some .local ∨ ((defScope st).names.lookup y.1 = some .cell ∧ ((cellsFrom (s.heap.objs.size + 1) (defScope st).names []).lookup y.1).isSome = true) := by
    rintro ⟨n, v⟩ hy
    rcases S.par n (List.of_mem_zip hy).1 with z | z
    · exact .inl z
    · exact .inr ⟨z, PySem.W.cellsFrom_some _ _ _ (.inl z)⟩
  refine codeAny_call_function room.depth (inK _ _ look) rfl S.co S.gen rfl (PySem.W.codeRec_of inK code) (bnd _ _ _ _ ?_)
  refine wpAny_newFunctionEnv_cells S.kind kinds fun env ee s1 entered => ?_
  subst ee
  refine ⟨(e0.mod.nolimit.keeps fun b o z => (e0.bs b o z).1).keeps entered.toInCall.keep, codeAny_func ?_⟩
  obtain ⟨t, ht, z0⟩ := body cdv A outer s H vs Q E gd (room.deeper _) spq
  refine wpAny_mono (ht.run [] s1 (start N vs) H _ (inv_start S room.hd e0 (len _ _ _ _ spq) rel entered) z0) (fun fl s' out => ?_) fun _ _ z => z
  match fl, out with
  | .ret u, ⟨v, _, H', J, rv, z⟩ => exact ⟨v, H', J.os, J.bare, J.base, J.hok, rv, z⟩
  | .next, ⟨_, H', J, z⟩ => exact ⟨.non, H', J.os, J.bare, J.base, J.hok, rfl, z⟩
  | .brk, ⟨_, _, _, z⟩ => exact z.elim
  | .cont, ⟨_, _, _, z⟩ => exact z.elim
section
variable {X : Cx} {k : Nat} {f : Addr} {fd : FuncData} {ps : List PySem.Str} {sp : Sp} {E : XK} {x : PySem.Str} {p pos : Pos} {e : Expr} {es : List Expr} {t : TA}
/-- f(e, ..) -/
theorem pe_callG (F : FnG X.prog X.w X.K X.mg X.base k f fd ps sp) (gd : X.A.guards = some []) (room : Room k X.A) (gl : Gl X x) (gm : X.mg x = some (.ref f)) (kp : PySem.W.keepIn X.K (.ref f) = true) (bi : Binds X.K fd ps []) (px : Passes CX0 X E)
    (ha : PA X (e :: es) t) (db : (x == ("__debug__" : PySem.Str)) = false := by decide) (st : starEach (e :: es) X.env = (false, eval e X.env) :: starEach es X.env := by rfl) (pl : (backTo pos (starEach es X.env)).any (·.1) = false := by rfl) :
    PE X (.Call (.Name x p) (e :: es) [] pos) (tCall sp [] E t) := by
  refine ⟨fun pins s σ H Q I h => wpAny_Call_Name_kw (ld_glob I gl gm ?_ db)⟩
  refine PySem.W.callWith_K (h₀ := X.base) I.ok.mod.kin kp (thn (ha.run pos pins s σ H _ I h) fun us s1 ⟨vs, H1, I1, rel, z⟩ => ⟨I1.kIn, ?_⟩) st pl
  have z : sp (vs ++ []) H1 Q E := z
  rw [List.append_nil] at z
  have n1 : us.length = ps.length := (rel.length.symm).trans (F.len _ _ _ _ z)
  have bnd := bi s1 us I1.kIn (by rw [List.append_nil]; exact n1)
  rw [List.append_nil] at bnd
  refine wpAny_call (codeAny_mono (F.go X.A X.stack s1 H1 ⟨us, []⟩ us vs Q E gd room I1.env0 bnd rel z) fun r s' out => ?_)
  match r, out with
  | .error er, out => exact px pins σ H1 s1 er s' I1 out
  | .ok (.ret u), out => exact I1.after out
  | .ok .next, out => exact out.elim
  | .ok .brk, out => exact out.elim
  | .ok .cont, out => exact out.elim
end
/-- the law's own call -/
theorem goG {P : Program} {w : World} {K : PySem.W.Frag} {mg mb : PySem.Str → Option Value} {k : Nat} {f a : Addr} {fd : FuncData} {x : PySem.Str} {sp : Sp} {s : Shared} {us : List Value} {ns : List Int}
    (inK : K.In s.heap) (nG : s.heap.Ns mainGlobals mg) (nB : s.heap.Ns builtinsNs mb) (isB : ∀ y : PySem.Str, y ≠ "__name__" → mb y = bootBuiltins y) (lim : s.heap.NoLimit) (gens : s.gens = #[])
    (scr : s.heap.get? a = some { cls := .type "list", data := .seq us.toArray }) (iv : IntsAre us ns) (few : ns.length ≤ sizeLine) (room : Room k callerA)
    (F : ∀ base : Heap, K.In base → base.Ns mainGlobals mg → FnG P w K mg base k f fd [x] sp) (bi : ∀ (s : Shared) (u : Value), BindsTo s fd ⟨[u], []⟩ [(x, u)])
    (spq : ∀ H : Hp, Only H → SqL K H a (ns.map V.int) → sp [.ref a] H (fun v _ => v = .bl true) fun _ _ _ => False) :
    codeAny (model P w) callerA (.call (.ref f) ⟨[.ref a], []⟩) (fun r s' => r = .ok (.ret (.bool true)) ∧ OldK s.heap s'.heap ∧ s'.os = s.os ∧ AllBare s'.gens) s := by
  have main : ∀ H : Hp, Only H → SqL K H a (ns.map V.int) → HOk P w H s.heap → (∀ b, H b ≠ none → b = a ∧ K.lookup a = none) →
      codeAny (model P w) callerA (.call (.ref f) ⟨[.ref a], []⟩) (fun r s' => r = .ok (.ret (.bool true)) ∧ OldK s.heap s'.heap ∧ s'.os = s.os ∧ AllBare s'.gens) s := fun H only seq ok just => by
    have isNone : ∀ {b : Addr}, (b = a → K.lookup a = none → False) → H b = none := fun {b} no => by
      cases z : H b with
      | none => rfl
      | some u => exact (no (just b (by rw [z]; exact fun q => nomatch q)).1 (just b (by rw [z]; exact fun q => nomatch q)).2).elim
    have dictN : ∀ {b : Addr} {m : PySem.Str → Option Value}, s.heap.Ns b m → (hidT s.heap H).Ns b m := fun {b m} ⟨o, es, ep, at_, dat, more⟩ =>
      ⟨o, es, ep, hidT_get at_ (isNone fun eb _ => by
        subst eb
        have z := congrArg Obj.data (Option.some.inj (scr.symm.trans at_))
        have z' : Data.seq us.toArray _ = Data.dict es ep := z.trans dat
        cases z'), dat, more⟩
    have inK' : K.In (hidT s.heap H) := fun b o at_ => hidT_get (inK b o at_) (isNone fun eb no => by
      subst eb
      rw [no] at at_
      cases at_)
    have env : Env0 P w K mg (hidT s.heap H) callerA [] s H := by
      obtain ⟨mc, l1, l2⟩ := lim
      exact ⟨rfl, ⟨inK', dictN nG, ⟨mb, dictN nB, isB⟩, ⟨mc, dictN l1, l2⟩⟩, fun _ _ z => of_hidT z, Nat.le_of_eq (hidT_size _ _), trivial, fun b hb => (nomatch (show b ∈ ([] : List Addr) from hb)), ok, .of_eq gens⟩
    refine codeAny_mono ((F _ inK' (dictN nG)).go callerA [] s H ⟨[.ref a], []⟩ [.ref a] [.ref a] _ _ rfl room env (bi s (.ref a)) (.cons rfl .nil) (spq H only seq)) fun r s' out => ?_
    match r, out with
    | .error er, out => exact False.elim out
    | .ok .next, out => exact False.elim out
    | .ok .brk, out => exact False.elim out
    | .ok .cont, out => exact False.elim out
    | .ok (.ret u), ⟨v, H', os, bare, un, ok', rv, ev⟩ =>
      have ev' : v = .bl true := ev
      subst ev'
      obtain rfl : u = Value.bool true := rv
      refine ⟨rfl, OldK.of_keep fun b o at_ => ?_, os, bare⟩
      cases z : H b with
      | none => exact un.keep b o at_ z (fun q => (nomatch (show b ∈ ([] : List Addr) from q))) (fun q => nomatch q)
      | some u =>
        rcases only b with z' | ⟨ob, xs, z'⟩
        · rw [z] at z'
          cases z'
        · have one := (ok b _ z').1
          have two := (ok' b _ (un.frzs b ob _ z')).1
          rw [at_] at one
          cases one
          exact two
  have rel := vals_ints iv
  cases look : K.lookup a with
  | some o =>
    have eo := Option.some.inj (scr.symm.trans (inK a o look))
    subst eo
    exact main (fun _ => none) (fun _ => .inl rfl) (.inr ⟨_, us.toArray, _, look, rfl, rfl, rfl, by rw [List.size_toArray, iv.length]; exact few, by simpa using rel⟩) (fun b u z => by
      have z' : (none : Option HO) = some u := z
      cases z') fun b z => (z rfl).elim
  | none =>
    have on : ∀ b u, (if b = a then some (HO.frz { cls := .type "list", data := .seq us.toArray } (.lst (ns.map V.int))) else none) = some u → b = a ∧ u = HO.frz { cls := .type "list", data := .seq us.toArray } (.lst (ns.map V.int)) := fun b u z => by
      by_cases eb : b = a
      · rw [if_pos eb] at z
        exact ⟨eb, (Option.some.inj z).symm⟩
      · rw [if_neg eb] at z
        cases z
    refine main (fun b => if b = a then some (.frz { cls := .type "list", data := .seq us.toArray } (.lst (ns.map V.int))) else none) (fun b => ?_) (.inl (.inr ⟨_, if_pos rfl⟩)) (fun b u z => ?_) (fun b z => ?_)
    · by_cases eb : b = a
      · exact .inr ⟨_, _, if_pos eb⟩
      · exact .inl (if_neg eb)
    · obtain ⟨eb, eu⟩ := on b u z
      subst eb eu
      exact ⟨scr, by rw [List.length_map]; exact few, us, _, rel, scr⟩
    · by_cases eb : b = a
      · exact ⟨eb, look⟩
      · exact (z (if_neg eb)).elim
/-- the end -/
theorem walkG {l : PySem.W.OpenLaw} {n k : Nat} {q : Program} {loose : List PySem.Str} {XP : (PySem.Str → Option Value) → Heap → Prop} {YP : World → Heap → Prop} {d : DefRec} {x : PySem.Str} (most : l.most = some n) (small : n ≤ sizeLine) (nodf : d.params.defaults = []) (room : Room k callerA)
    (F : ∀ (w : World) (mg : PySem.Str → Option Value) (f : Addr) (h : Heap), YP w h → h.Ns mainGlobals mg → mg d.name = some (.ref f) → ∃ (K : PySem.W.Frag) (fd : FuncData) (sp : Sp), K.In h ∧ (∀ (s : Shared) (u : Value), BindsTo s fd ⟨[u], []⟩ [(x, u)]) ∧
      (∀ base : Heap, K.In base → base.Ns mainGlobals mg → FnG l.prog w K mg base k f fd [x] sp) ∧ ∀ (H : Hp) (a : Addr) (ns : List Int), ns.length ≤ n → SqL K H a (ns.map V.int) → sp [.ref a] H (fun v _ => v = .bl true) fun _ _ _ => False) :
    PySem.W.WalkO q loose XP YP l.row.toRowW d [] (fun f vs => PySem.call f vs) := by
  refine Att.attach_call most nodf fun w s0 s1 mg mb f o pm cd doc a us ns G Y _ _ _ hmg scr iv few gens => ?_
  obtain ⟨K, fd, sp, inK, bi, hF, spq⟩ := F w mg f _ Y G.T.g hmg
  exact goG inK G.T.g G.T.b G.T.builtins G.T.nolimit gens scr iv (Nat.le_trans few small) room hF bi fun H _ seq => spq H a ns few seq
end K9

set_option Elab.async false
set_option linter.all false
set_option maxRecDepth 100000
set_option maxHeartbeats 4000000
namespace K9
open PySem
/-! ### the mathematics -/
theorem bA (a b : Nat) : Builtin.bitAnd (a : Int) (b : Int) = ((a &&& b : Nat) : Int) := by
  rw [PyProof.Rows.bitAnd_pp (Int.natCast_nonneg a) (Int.natCast_nonneg b), Int.toNat_natCast, Int.toNat_natCast]
theorem bO (a b : Nat) : Builtin.bitOr (a : Int) (b : Int) = ((a ||| b : Nat) : Int) := by
  rw [Bits.bitOr_pp (Int.natCast_nonneg a) (Int.natCast_nonneg b), Int.toNat_natCast, Int.toNat_natCast]
theorem bX (a b : Nat) : Builtin.bitXor (a : Int) (b : Int) = ((a ^^^ b : Nat) : Int) := by
  rw [Bits.bitXor_pp (Int.natCast_nonneg a) (Int.natCast_nonneg b), Int.toNat_natCast, Int.toNat_natCast]
section
open PySem.Spec PyProof.Rows L2
variable {X : Cx}
def rAndN : R2 := fun x y H Q => ∃ n m : Nat, x = .int (n : Int) ∧ y = .int (m : Int) ∧ Q (.int ((n &&& m : Nat) : Int)) H
def rOrN : R2 := fun x y H Q => ∃ n m : Nat, x = .int (n : Int) ∧ y = .int (m : Int) ∧ Q (.int ((n ||| m : Nat) : Int)) H
def rXorN : R2 := fun x y H Q => ∃ n m : Nat, x = .int (n : Int) ∧ y = .int (m : Int) ∧ Q (.int ((n ^^^ m : Nat) : Int)) H
def rShlN : R2 := fun x y H Q => ∃ n k : Nat, x = .int (n : Int) ∧ y = .int (k : Int) ∧ (n ≤ 1073741824 ∧ k ≤ 1000000) ∧ Q (.int ((n * 2 ^ k : Nat) : Int)) H
def rBit : R2 := fun x y H Q => ∃ k : Nat, x = .int 1 ∧ y = .int (k : Int) ∧ k ≤ 1000000 ∧ Q (.int ((2 ^ k : Nat) : Int)) H
def rShrN : R2 := fun x y H Q => ∃ n k : Nat, x = .int (n : Int) ∧ y = .int (k : Int) ∧ Q (.int ((n >>> k : Nat) : Int)) H
def rEqN : R2 := fun x y H Q => ∃ n m : Nat, x = .int (n : Int) ∧ y = .int (m : Int) ∧ Q (.bl (decide (n = m))) H
def rLtN : R2 := fun x y H Q => ∃ n m : Nat, x = .int (n : Int) ∧ y = .int (m : Int) ∧ Q (.bl (decide (n < m))) H
def rGtN : R2 := fun x y H Q => ∃ n m : Nat, x = .int (n : Int) ∧ y = .int (m : Int) ∧ Q (.bl (decide (m < n))) H
def rSubN : R2 := fun x y H Q => ∃ n m : Nat, x = .int (n : Int) ∧ y = .int (m : Int) ∧ m ≤ n ∧ Q (.int ((n - m : Nat) : Int)) H
def rAddN : R2 := fun x y H Q => ∃ n m : Nat, x = .int (n : Int) ∧ y = .int (m : Int) ∧ Q (.int ((n + m : Nat) : Int)) H
theorem n_sub : OpR X (binaryOp .Sub) rSubN := op_subN
theorem n_add : OpR X (binaryOp .Add) rAddN := op_addN
theorem n_and : OpR X (binaryOp .BitAnd) rAndN := by
  intro pins s σ H x y v u Q I rx ry h
  obtain ⟨n, m, rfl, rfl, q⟩ := h
  rw [← bA] at q
  exact op_and pins s σ H _ _ v u Q I rx ry ⟨_, _, rfl, rfl, q⟩
theorem n_or : OpR X (binaryOp .BitOr) rOrN := by
  intro pins s σ H x y v u Q I rx ry h
  obtain ⟨n, m, rfl, rfl, q⟩ := h
  rw [← bO] at q
  exact op_or pins s σ H _ _ v u Q I rx ry ⟨_, _, rfl, rfl, q⟩
theorem n_xor : OpR X (binaryOp .BitXor) rXorN := by
  intro pins s σ H x y v u Q I rx ry h
  obtain ⟨n, m, rfl, rfl, q⟩ := h
  rw [← bX] at q
  exact op_xor pins s σ H _ _ v u Q I rx ry ⟨_, _, rfl, rfl, q⟩
theorem n_shl : OpR X (binaryOp .LShift) rShlN := by
  intro pins s σ H x y v u Q I rx ry h
  obtain ⟨n, k, rfl, rfl, ⟨c1, c2⟩, q⟩ := h
  have e : ((n * 2 ^ k : Nat) : Int) = (n : Int) * 2 ^ ((k : Int)).toNat := by rw [Int.toNat_natCast]; simp
  rw [e] at q
  exact op_shl pins s σ H _ _ v u Q I rx ry ⟨_, _, rfl, rfl, ⟨Int.natCast_nonneg k, by omega, by omega⟩, q⟩
theorem n_bit : OpR X (binaryOp .LShift) rBit := by
  intro pins s σ H x y v u Q I rx ry h
  obtain ⟨k, rfl, rfl, c, q⟩ := h
  have e : ((2 ^ k : Nat) : Int) = (1 : Int) * 2 ^ ((k : Int)).toNat := by rw [Int.toNat_natCast]; simp
  rw [e] at q
  exact op_shl pins s σ H _ _ v u Q I rx ry ⟨_, _, rfl, rfl, ⟨Int.natCast_nonneg k, by omega, by decide⟩, q⟩
theorem n_shr : OpR X (binaryOp .RShift) rShrN := by
  intro pins s σ H x y v u Q I rx ry h
  obtain ⟨n, k, rfl, rfl, q⟩ := h
  have e : ((n >>> k : Nat) : Int) = (n : Int) / 2 ^ ((k : Int)).toNat := by rw [Int.toNat_natCast, Nat.shiftRight_eq_div_pow]; simp
  rw [e] at q
  exact op_shr pins s σ H _ _ v u Q I rx ry ⟨_, _, rfl, rfl, Int.natCast_nonneg k, q⟩
theorem n_eq : OpR X (compareOp .Eq) rEqN := by
  intro pins s σ H x y v u Q I rx ry h
  obtain ⟨n, m, rfl, rfl, q⟩ := h
  refine op_eq pins s σ H _ _ v u Q I rx ry ⟨rfl, ?_⟩
  rw [show decide (V.int (n : Int) = V.int (m : Int)) = decide (n = m) from decide_eq_decide.mpr ⟨fun z => by have := V.int.inj z; omega, fun z => by rw [z]⟩]
  exact q
theorem n_lt : OpR X (compareOp .Lt) rLtN := by
  intro pins s σ H x y v u Q I rx ry h
  obtain ⟨n, m, rfl, rfl, q⟩ := h
  refine op_lt pins s σ H _ _ v u Q I rx ry ⟨_, _, rfl, rfl, ?_⟩
  show Q (.bl (decide ((n : Int) < (m : Int)))) H
  rw [show decide ((n : Int) < (m : Int)) = decide (n < m) from decide_eq_decide.mpr (by omega)]
  exact q
theorem n_gt : OpR X (compareOp .Gt) rGtN := by
  intro pins s σ H x y v u Q I rx ry h
  obtain ⟨n, m, rfl, rfl, q⟩ := h
  refine op_gt pins s σ H _ _ v u Q I rx ry ⟨_, _, rfl, rfl, ?_⟩
  show Q (.bl (decide ((m : Int) < (n : Int)))) H
  rw [show decide ((m : Int) < (n : Int)) = decide (m < n) from decide_eq_decide.mpr (by omega)]
  exact q
def rNeN : R2 := fun x y H Q => ∃ n m : Nat, x = .int (n : Int) ∧ y = .int (m : Int) ∧ Q (.bl (!decide (n = m))) H
theorem n_ne : OpR X (compareOp .NotEq) rNeN := by
  intro pins s σ H x y v u Q I rx ry h
  obtain ⟨n, m, rfl, rfl, q⟩ := h
  refine op_ne pins s σ H _ _ v u Q I rx ry ⟨rfl, ?_⟩
  rw [show decide (V.int (n : Int) = V.int (m : Int)) = decide (n = m) from decide_eq_decide.mpr ⟨fun z => by have := V.int.inj z; omega, fun z => by rw [z]⟩]
  exact q
def rGeN : R2 := fun x y H Q => ∃ n m : Nat, x = .int (n : Int) ∧ y = .int (m : Int) ∧ Q (.bl (decide (m ≤ n))) H
theorem n_ge : OpR X (compareOp .GtE) rGeN := by
  intro pins s σ H x y v u Q I rx ry h
  obtain ⟨n, m, rfl, rfl, q⟩ := h
  refine op_ge pins s σ H _ _ v u Q I rx ry ⟨_, _, rfl, rfl, ?_⟩
  show Q (.bl (decide ((m : Int) ≤ (n : Int)))) H
  rw [show decide ((m : Int) ≤ (n : Int)) = decide (m ≤ n) from decide_eq_decide.mpr (by omega)]
  exact q
def rLeN : R2 := fun x y H Q => ∃ n m : Nat, x = .int (n : Int) ∧ y = .int (m : Int) ∧ Q (.bl (decide (n ≤ m))) H
theorem n_le : OpR X (compareOp .LtE) rLeN := by
  intro pins s σ H x y v u Q I rx ry h
  obtain ⟨n, m, rfl, rfl, q⟩ := h
  refine op_le pins s σ H _ _ v u Q I rx ry ⟨_, _, rfl, rfl, ?_⟩
  show Q (.bl (decide ((n : Int) ≤ (m : Int)))) H
  rw [show decide ((n : Int) ≤ (m : Int)) = decide (n ≤ m) from decide_eq_decide.mpr (by omega)]
  exact q
/-- n & ~m -/
def rAndC : R2 := fun x y H Q => ∃ n m : Nat, x = .int (n : Int) ∧ y = .int (Builtin.bitNot (m : Int)) ∧ Q (.int ((n - (n &&& m) : Nat) : Int)) H
theorem bC (n m : Nat) : Builtin.bitAnd (n : Int) (Builtin.bitNot (m : Int)) = ((n - (n &&& m) : Nat) : Int) := by
  have h1 : decide ((0 : Int) ≤ (n : Int)) = true := decide_eq_true (Int.natCast_nonneg n)
  have h2 : decide ((0 : Int) ≤ Builtin.bitNot (m : Int)) = false := decide_eq_false (by unfold Builtin.bitNot; omega)
  have h3 : (Builtin.bitNot (Builtin.bitNot (m : Int))).toNat = m := by
    unfold Builtin.bitNot
    omega
  unfold Builtin.bitAnd
  rw [h1, h2]
  show (n : Int) - (((n : Int).toNat &&& (Builtin.bitNot (Builtin.bitNot (m : Int))).toNat : Nat) : Int) = _
  rw [h3, Int.toNat_natCast]
  have : n &&& m ≤ n := Nat.and_le_left
  omega
theorem n_andC : OpR X (binaryOp .BitAnd) rAndC := by
  intro pins s σ H x y v u Q I rx ry h
  obtain ⟨n, m, rfl, rfl, q⟩ := h
  rw [← bC] at q
  exact op_and pins s σ H _ _ v u Q I rx ry ⟨_, _, rfl, rfl, q⟩
def rAddE : R2 := fun x y H Q => ∃ i j k : Int, x = .int i ∧ y = .int j ∧ i + j = k ∧ Q (.int k) H
theorem op_addE : OpR X (binaryOp .Add) rAddE := by
  intro pins s σ H x y v u Q I rx ry h
  obtain ⟨i, j, k, rfl, rfl, rfl, q⟩ := h
  exact op_add pins s σ H _ _ v u Q I rx ry ⟨_, _, rfl, rfl, q⟩
def rModN : R2 := fun x y H Q => ∃ n m : Nat, x = .int (n : Int) ∧ y = .int (m : Int) ∧ 0 < m ∧ Q (.int ((n % m : Nat) : Int)) H
theorem n_mod : OpR X (binaryOp .Mod) rModN := by
  intro pins s σ H x y v u Q I rx ry h
  obtain ⟨n, m, rfl, rfl, c, q⟩ := h
  rw [Int.natCast_emod] at q
  exact op_mod pins s σ H _ _ v u Q I rx ry ⟨_, _, rfl, rfl, (by show (0 : Int) < (m : Int); omega), q⟩
def rMulN : R2 := fun x y H Q => ∃ n m : Nat, x = .int (n : Int) ∧ y = .int (m : Int) ∧ n ≤ 4294967296 ∧ Q (.int ((n * m : Nat) : Int)) H
theorem n_mul : OpR X (binaryOp .Mult) rMulN := op_mulN
end
end K9

set_option Elab.async false
set_option linter.all false
set_option maxRecDepth 100000
set_option maxHeartbeats 2000000
namespace K9
open PySem PySem.Spec PyProof.Rows L2
/-! ### helpers: what stays, facts as tuples -/
theorem Kept.sqt {K : PySem.W.Frag} {D : Addr → Prop} {H H1 : Hp} (a : Kept D H H1) {p : Addr} {xs : List V} (h : SqT K H p xs) (n : ¬ D p) : SqT K H1 p xs := by
  rcases h with (h | ⟨o, h⟩) | h
  · exact .inl (.inl (a.tup h n))
  · exact .inl (.inr ⟨o, a.frz h n⟩)
  · exact .inr h
theorem sqt_new {K : PySem.W.Frag} {H : Hp} {p b : Addr} {xs : List V} {o : HO} (h : SqT K H p xs) (n : H b = none) : SqT K (upd H b o) p xs := by
  rcases h with (h | ⟨o', h⟩) | h
  · exact .inl (.inl (by rw [upd_ne (ne_of_none h n)]; exact h))
  · exact .inl (.inr ⟨o', by rw [upd_ne (ne_of_none h n)]; exact h⟩)
  · exact .inr h
theorem sqt_upd {K : PySem.W.Frag} {H : Hp} {p b : Addr} {xs ys zs : List V} (h : SqT K H p xs) (e : H b = some (.lst ys)) : SqT K (upd H b (.lst zs)) p xs := by
  rcases h with (h | ⟨o', h⟩) | h
  · exact .inl (.inl (by rw [upd_ne (ne_of h e (by intro z; cases z))]; exact h))
  · exact .inl (.inr ⟨o', by rw [upd_ne (ne_of h e (by intro z; cases z))]; exact h⟩)
  · exact .inr h
theorem sql_new {K : PySem.W.Frag} {H : Hp} {p b : Addr} {xs : List V} {o : HO} (h : SqL K H p xs) (n : H b = none) : SqL K (upd H b o) p xs := by
  rcases h with (h | ⟨o', h⟩) | h
  · exact .inl (.inl (by rw [upd_ne (ne_of_none h n)]; exact h))
  · exact .inl (.inr ⟨o', by rw [upd_ne (ne_of_none h n)]; exact h⟩)
  · exact .inr h
theorem Kept.nu {H H1 : Hp} {d c p : Addr} {o : HO} {ns : List Int} {n : Nat} (k : Kept (At d) H H1) (D : Dr H1 d c ns n) (h : H1 p = none) : Kept (At d) H (L2.upd H1 p o) := k.new (At.free k D h)
def two (z o : Nat) : List V := [.int (z : Int), .int (o : Int)]
def twoF (f : Nat × Nat) : List V := two f.1 f.2
def most (w : Nat) : Nat := 2 ^ w - 1
theorem pow_bound {w : Nat} (h : w ≤ 12) : (2 : Nat) ^ w ≤ 4096 := Nat.pow_le_pow_right (by decide) h
theorem pow_pos' {w : Nat} : 1 ≤ (2 : Nat) ^ w := Nat.one_le_two_pow
theorem most_pow (w : Nat) : most w + 1 = 2 ^ w := by
  have := pow_pos' (w := w)
  unfold most
  omega
theorem dpTwo {K : PySem.W.Frag} {H : Hp} {p : Addr} {z o : Nat} (h : SqT K H p (two z o)) : Dp K H (.ref p) (.tuple [.int z, .int o]) := .tup h (.cons (.int _) (.cons (.int _) .nil))
def nums (l : List Nat) : List V := l.map fun n : Nat => V.int (n : Int)
def numsD (l : List Nat) : PyData := .list (l.map fun n : Nat => PyData.int (n : Int))
theorem dpNums {K : PySem.W.Frag} {H : Hp} : ∀ l : List Nat, DpAll K H (nums l) (l.map fun n : Nat => PyData.int (n : Int))
  | [] => .nil
  | x :: l => .cons (.int _) (dpNums l)
theorem small_log {i : Int} (h0 : 0 ≤ i) (h1 : i < 1000000000) : i.natAbs.log2 < 1920 := by
  by_cases h : i.natAbs = 0
  · rw [h]; decide
  · exact (Nat.log2_lt h).mpr (Nat.lt_of_lt_of_le (show i.natAbs < 2 ^ 30 by omega) (Nat.pow_le_pow_right (by decide) (by decide)))
theorem short_int {i : Int} (h0 : 0 ≤ i) (h1 : i < 1000000000) : (PyData.int i).leavesShort 2000 = true := by
  have e := int_text_len_1921 (small_log h0 h1)
  exact decide_eq_true (Nat.le_trans (show (PyData.shown (.int i)).length ≤ 1921 from e) (by decide))
theorem show_int {i : Int} (h0 : 0 ≤ i) (h1 : i < 1000000000) : (PyData.int i).showable = true := decide_eq_true (small_log h0 h1)
def dF (z o : Nat) : PyData := .tuple [.int z, .int o]
theorem dF_ok {z o : Nat} (hz : z < 5000) (ho : o < 5000) : (dF z o).showable = true ∧ (dF z o).shown.length ≤ sizeLine := by
  have a := short_int (i := (z : Int)) (by omega) (by omega)
  have b := short_int (i := (o : Int)) (by omega) (by omega)
  have c := show_int (i := (z : Int)) (by omega) (by omega)
  have d := show_int (i := (o : Int)) (by omega) (by omega)
  constructor
  · show (PyData.showable (PyData.int (z : Int)) && (PyData.showable (PyData.int (o : Int)) && true)) = true
    rw [c, d]; rfl
  · have e := PyData.shown_le_bulk 2000 (by decide) (dF z o) (by
      show (PyData.leavesShort 2000 (PyData.int (z : Int)) && (PyData.leavesShort 2000 (PyData.int (o : Int)) && true)) = true
      rw [a, b]; rfl)
    have f : (dF z o).bulk = 2 := rfl
    rw [f] at e
    rw [sizeLine_eq]
    omega
/-- a def that stands, with its promise -/
def Def (P : Program) (w : World) (K : PySem.W.Frag) (mg : PySem.Str → Option Value) (base : Heap) (k : Nat) (x : PySem.Str) (ps : List PySem.Str) (sp : Sp) : Prop := ∃ f fd, FnOk P w K mg base CX0 k f fd ps sp ∧ Binds K fd ps [] ∧ PySem.W.keepIn K (.ref f) = true ∧ mg x = some (.ref f)
def DefG (P : Program) (w : World) (K : PySem.W.Frag) (mg : PySem.Str → Option Value) (base : Heap) (k : Nat) (x : PySem.Str) (ps : List PySem.Str) (sp : Sp) : Prop := ∃ f fd, FnG P w K mg base k f fd ps sp ∧ Binds K fd ps [] ∧ PySem.W.keepIn K (.ref f) = true ∧ mg x = some (.ref f)
end K9

set_option Elab.async false
set_option linter.all false
set_option maxRecDepth 100000
set_option maxHeartbeats 4000000
namespace K9
open PySem PySem.Spec PyProof.Rows L2
/-! ### what isn't come to -/
def tNever : TS := fun _ _ _ => False
theorem ps_never {X : Cx} {st : Stmt} : PS X st tNever := ⟨fun _ _ _ _ _ _ h => h.elim⟩
/-! ### the reading's object -/
abbrev FnM (K : PySem.W.Frag) (x q : PySem.Str) (st : Stmt) (f : Addr) (fd : FuncData) : Prop := FunD K x q (defArgs st) (defBody st) (defScope st) [] [] f fd
structure TxC (K : PySem.W.Frag) (mg : PySem.Str → Option Value) (C : Addr) : Prop where
  cl : Cls K C
  nA : NoAttr K C "all_lines"
  nL : NoAttr K C "lines"
  nT : NoAttr K C "taken"
  nM : NoAttr K C "many_rows"
  nN : NoAttr K C "names"
  nB : NoAttr K C "bounds"
  mgC : mg "Text" = some (.ref C)
def fsT (A L : Addr) (k m : Nat) (N B : Addr) : List (PySem.Str × V) := [("all_lines", .ref A), ("lines", .ref L), ("taken", .int (k : Int)), ("many_rows", .int (m : Int)), ("names", .ref N), ("bounds", .ref B)]
theorem f_A {A L : Addr} {k m : Nat} {N B : Addr} : (fsT A L k m N B).lookup ("all_lines" : PySem.Str) = some (.ref A) := rfl
theorem f_L {A L : Addr} {k m : Nat} {N B : Addr} : (fsT A L k m N B).lookup ("lines" : PySem.Str) = some (.ref L) := rfl
theorem f_T {A L : Addr} {k m : Nat} {N B : Addr} : (fsT A L k m N B).lookup ("taken" : PySem.Str) = some (.int (k : Int)) := rfl
theorem f_M {A L : Addr} {k m : Nat} {N B : Addr} : (fsT A L k m N B).lookup ("many_rows" : PySem.Str) = some (.int (m : Int)) := rfl
theorem f_N {A L : Addr} {k m : Nat} {N B : Addr} : (fsT A L k m N B).lookup ("names" : PySem.Str) = some (.ref N) := rfl
theorem f_B {A L : Addr} {k m : Nat} {N B : Addr} : (fsT A L k m N B).lookup ("bounds" : PySem.Str) = some (.ref B) := rfl
theorem p_T {A L : Addr} {k m k' : Nat} {N B : Addr} : putF "taken" (.int (k' : Int)) (fsT A L k m N B) = fsT A L k' m N B := rfl
theorem p_M {A L : Addr} {k m m' : Nat} {N B : Addr} : putF "many_rows" (.int (m' : Int)) (fsT A L k m N B) = fsT A L k m' N B := rfl
end K9

set_option Elab.async false
set_option linter.all false
set_option maxRecDepth 100000
set_option maxHeartbeats 2000000
namespace K9
open PySem PySem.StrLaws PySem.Builtin PySem.Builtin.Str
/-! ### texts as lists of signs -/
def mkS (l : List Nat) : PySem.Str := ⟨l.toArray⟩
theorem mkS_list (l : List Nat) : (mkS l).cps.toList = l := by simp [mkS]
theorem mkS_len (l : List Nat) : (mkS l).length = l.length := by simp [mkS, PySem.Str.length]
theorem mkS_of (x : PySem.Str) : mkS x.cps.toList = x := by cases x; simp [mkS]
theorem mkS_inj {a b : List Nat} (h : mkS a = mkS b) : a = b := by
  have e := congrArg (fun s : PySem.Str => s.cps.toList) h
  simpa [mkS] using e
theorem len_list (x : PySem.Str) : x.length = x.cps.toList.length := by simp [PySem.Str.length]
/-! ### parting by one sign -/
def pr (c : Nat) : List Nat → List Nat × List (List Nat)
  | [] => ([], [])
  | x :: l => if x = c then ([], (pr c l).1 :: (pr c l).2) else (x :: (pr c l).1, (pr c l).2)
def parts (c : Nat) (l : List Nat) : List (List Nat) := (pr c l).1 :: (pr c l).2
theorem parts_hit (c : Nat) (l : List Nat) : parts c (c :: l) = [] :: parts c l := by
  unfold parts; rw [pr, if_pos rfl]
theorem parts_miss {c x : Nat} (h : x ≠ c) (l : List Nat) : parts c (x :: l) = (x :: (pr c l).1) :: (pr c l).2 := by
  unfold parts; rw [pr, if_neg h]
theorem parts_len (c : Nat) : ∀ l : List Nat, (parts c l).length ≤ l.length + 1
  | [] => by simp [parts, pr]
  | x :: l => by
    have ih := parts_len c l
    by_cases h : x = c
    · subst h; rw [parts_hit]; simp only [List.length_cons]; omega
    · rw [parts_miss h]; unfold parts at ih; simp only [List.length_cons] at ih ⊢; omega
theorem parts_mem_len (c : Nat) : ∀ l : List Nat, ∀ w ∈ parts c l, w.length ≤ l.length
  | [], w, hw => by simp [parts, pr] at hw; simp [hw]
  | x :: l, w, hw => by
    have ih := parts_mem_len c l
    by_cases h : x = c
    · subst h; rw [parts_hit] at hw
      rcases List.mem_cons.mp hw with e | hw
      · subst e; exact Nat.zero_le _
      · exact Nat.le_succ_of_le (ih w hw)
    · rw [parts_miss h] at hw
      rcases List.mem_cons.mp hw with e | hw
      · subst e
        have := ih _ (by unfold parts; exact List.mem_cons_self)
        simp only [List.length_cons]; omega
      · exact Nat.le_succ_of_le (ih w (by unfold parts; exact List.mem_cons_of_mem _ hw))
/-- one sign more -/
theorem parts_snoc (c : Nat) : ∀ (l : List Nat) (x : Nat), ∃ d u, parts c l = d ++ [u] ∧ parts c (l ++ [x]) = if x = c then d ++ [u] ++ [[]] else d ++ [u ++ [x]]
  | [], x => by
    refine ⟨[], [], rfl, ?_⟩
    by_cases h : x = c
    · subst h; rw [if_pos rfl]; show parts x [x] = _; rw [parts_hit]; rfl
    · rw [if_neg h]; show parts c [x] = _; rw [parts_miss h]; rfl
  | y :: l, x => by
    obtain ⟨d, u, e1, e2⟩ := parts_snoc c l x
    show ∃ d u, parts c (y :: l) = d ++ [u] ∧ parts c (y :: (l ++ [x])) = _
    by_cases hy : y = c
    · subst hy
      refine ⟨[] :: d, u, by rw [parts_hit, e1]; rfl, ?_⟩
      rw [parts_hit, e2]
      split <;> rfl
    · rw [parts_miss hy, parts_miss hy]
      have p1 : (pr c l).1 :: (pr c l).2 = d ++ [u] := e1
      have p2 : (pr c (l ++ [x])).1 :: (pr c (l ++ [x])).2 = if x = c then d ++ [u] ++ [[]] else d ++ [u ++ [x]] := e2
      cases d with
      | nil =>
        obtain ⟨q1, q2⟩ := List.cons.inj p1
        refine ⟨[], y :: u, by rw [q1, q2]; rfl, ?_⟩
        by_cases hx : x = c
        · rw [if_pos hx] at p2 ⊢
          obtain ⟨z1, z2⟩ := List.cons.inj p2
          rw [z1, z2]; rfl
        · rw [if_neg hx] at p2 ⊢
          obtain ⟨z1, z2⟩ := List.cons.inj p2
          rw [z1, z2]; rfl
      | cons g d =>
        obtain ⟨q1, q2⟩ := List.cons.inj p1
        refine ⟨(y :: g) :: d, u, by rw [q1, q2]; rfl, ?_⟩
        by_cases hx : x = c
        · rw [if_pos hx] at p2 ⊢
          obtain ⟨z1, z2⟩ := List.cons.inj p2
          rw [z1, z2]; rfl
        · rw [if_neg hx] at p2 ⊢
          obtain ⟨z1, z2⟩ := List.cons.inj p2
          rw [z1, z2]; rfl
/-! ### split by one sign -/
def idx (c : Nat) : Nat → List Nat → List Nat
  | _, [] => []
  | a, y :: r => if y = c then a :: idx c (a + 1) r else idx c (a + 1) r
theorem idx_ge (c : Nat) : ∀ (a : Nat) (l : List Nat), ∀ k ∈ idx c a l, a ≤ k
  | _, [], _, h => by simp [idx] at h
  | a, y :: r, k, h => by
    unfold idx at h
    split at h
    · rcases List.mem_cons.mp h with e | h
      · omega
      · have := idx_ge c (a + 1) r k h; omega
    · have := idx_ge c (a + 1) r k h; omega
theorem sub1 (x : PySem.Str) (c i : Nat) : (i + (⟨#[c]⟩ : PySem.Str).length ≤ x.length ∧ subAt x ⟨#[c]⟩ i = true) ↔ x.cps.toList[i]? = some c := by
  have hl : (⟨#[c]⟩ : PySem.Str).length = 1 := rfl
  rw [subAt_eq, hl]
  have hn := len_list x
  constructor
  · rintro ⟨h1, h2⟩
    have h3 := eq_of_beq h2
    have hi : i < x.cps.toList.length := by omega
    have e : (x.cps.toList.drop i).take 1 = [x.cps.toList[i]] := by
      rw [List.drop_eq_getElem_cons hi]; rfl
    rw [e] at h3
    rw [List.getElem?_eq_getElem hi]
    have : [x.cps.toList[i]] = [c] := h3
    rw [List.cons.inj this |>.1]
  · intro h
    obtain ⟨hi, e⟩ := List.getElem?_eq_some_iff.mp h
    refine ⟨by omega, ?_⟩
    rw [List.drop_eq_getElem_cons hi, e]
    exact beq_self_eq_true _
theorem occ_run (x : PySem.Str) (c : Nat) : ∀ (l : List Nat) (a : Nat) (st : Array Nat × Nat), x.cps.toList.drop a = l → a + l.length = x.length → st.fst.size ≤ a → st.snd ≤ a →
    (forIn (List.range' a (l.length + 1)) st (occBody x ⟨#[c]⟩ x.length (x.length + 1))).run.fst.toList = st.fst.toList ++ idx c a l
  | [], a, st, hd, hz, h1, h2 => by
    show (forIn (List.range' a 1) st (occBody x ⟨#[c]⟩ x.length (x.length + 1))).run.fst.toList = _
    rw [List.range'_succ, List.forIn_cons]
    unfold occBody
    have hne : ¬ (((st.fst.size < x.length + 1 ∧ st.snd ≤ a) ∧ a + (⟨#[c]⟩ : PySem.Str).length ≤ x.length) ∧ subAt x ⟨#[c]⟩ a = true) := by
      rintro ⟨⟨_, h⟩, _⟩
      have hl : (⟨#[c]⟩ : PySem.Str).length = 1 := rfl
      simp only [List.length_nil] at hz
      omega
    rw [if_neg hne]
    simp [idx]
  | y :: r, a, st, hd, hz, h1, h2 => by
    show (forIn (List.range' a ((r.length + 1) + 1)) st (occBody x ⟨#[c]⟩ x.length (x.length + 1))).run.fst.toList = _
    rw [List.range'_succ, List.forIn_cons]
    have hg : x.cps.toList[a]? = some y := by
      have e := congrArg (fun l : List Nat => l[0]?) hd
      simp only [List.getElem?_drop, Nat.add_zero] at e
      simpa using e
    have hd' : x.cps.toList.drop (a + 1) = r := by
      rw [← List.drop_drop, hd]; rfl
    have hz' : (a + 1) + r.length = x.length := by simp only [List.length_cons] at hz; omega
    by_cases hy : y = c
    · subst hy
      have hp : ((st.fst.size < x.length + 1 ∧ st.snd ≤ a) ∧ a + (⟨#[y]⟩ : PySem.Str).length ≤ x.length) ∧ subAt x ⟨#[y]⟩ a = true := by
        have q := (sub1 x y a).mpr hg
        exact ⟨⟨⟨by omega, h2⟩, q.1⟩, q.2⟩
      have e1 : occBody x ⟨#[y]⟩ x.length (x.length + 1) a st = pure (ForInStep.yield (st.fst.push a, a + (⟨#[y]⟩ : PySem.Str).length)) := by
        unfold occBody; rw [if_pos hp]
      rw [e1]
      have ih := occ_run x y r (a + 1) (st.fst.push a, a + 1) hd' hz' (by simp; omega) (Nat.le_refl _)
      have hl : (⟨#[y]⟩ : PySem.Str).length = 1 := rfl
      show (forIn (List.range' (a + 1) (r.length + 1)) (st.fst.push a, a + (⟨#[y]⟩ : PySem.Str).length) (occBody x ⟨#[y]⟩ x.length (x.length + 1))).run.fst.toList = _
      rw [hl, ih]
      simp [idx]
    · have hn : ¬ (((st.fst.size < x.length + 1 ∧ st.snd ≤ a) ∧ a + (⟨#[c]⟩ : PySem.Str).length ≤ x.length) ∧ subAt x ⟨#[c]⟩ a = true) := by
        rintro ⟨⟨_, h3⟩, h4⟩
        have q := (sub1 x c a).mp ⟨h3, h4⟩
        rw [hg] at q
        exact hy (Option.some.inj q)
      have e1 : occBody x ⟨#[c]⟩ x.length (x.length + 1) a st = pure (ForInStep.yield (st.fst, st.snd)) := by
        unfold occBody; rw [if_neg hn]
      rw [e1]
      have ih := occ_run x c r (a + 1) (st.fst, st.snd) hd' hz' (by show st.fst.size ≤ a + 1; omega) (by show st.snd ≤ a + 1; omega)
      show (forIn (List.range' (a + 1) (r.length + 1)) (st.fst, st.snd) (occBody x ⟨#[c]⟩ x.length (x.length + 1))).run.fst.toList = _
      rw [ih]
      simp [idx, hy]
theorem occ_idx (x : PySem.Str) (c : Nat) : occurrences x ⟨#[c]⟩ 0 x.length (x.length + 1) = idx c 0 x.cps.toList := by
  rw [occ_eq]
  have h := occ_run x c x.cps.toList 0 (#[], 0) rfl (by rw [len_list x]; omega) (Nat.le_refl _) (Nat.le_refl _)
  have e : x.length + 1 - 0 = x.cps.toList.length + 1 := by rw [len_list x]; omega
  rw [e, h]
  rfl
theorem sub_mk (x : PySem.Str) (a b : Nat) : strSub x a b = mkS ((x.cps.toList.drop a).take (b - a)) := by
  have h := strSub_toList x a b
  rw [← mkS_of (strSub x a b), h]
theorem partsFrom_idx (x : PySem.Str) (c : Nat) : ∀ (l : List Nat) (a : Nat), x.cps.toList.drop a = l → a + l.length = x.length → partsFrom x 1 a (idx c a l) = (parts c l).map mkS
  | [], a, hd, hz => by
    show [strSub x a x.length] = _
    rw [sub_mk, hd, List.take_nil]
    rfl
  | y :: r, a, hd, hz => by
    have hd' : x.cps.toList.drop (a + 1) = r := by rw [← List.drop_drop, hd]; rfl
    have hz' : (a + 1) + r.length = x.length := by simp only [List.length_cons] at hz; omega
    have ih := partsFrom_idx x c r (a + 1) hd' hz'
    by_cases hy : y = c
    · subst hy
      have e1 : idx y a (y :: r) = a :: idx y (a + 1) r := by rw [idx, if_pos rfl]
      rw [e1, parts_hit]
      show strSub x a a :: partsFrom x 1 (a + 1) (idx y (a + 1) r) = _
      rw [ih, sub_mk]
      simp
    · have e1 : idx c a (y :: r) = idx c (a + 1) r := by rw [idx, if_neg hy]
      rw [e1, parts_miss hy]
      have hge := idx_ge c (a + 1) r
      generalize idx c (a + 1) r = cuts at ih hge
      have ih' : partsFrom x 1 (a + 1) cuts = mkS (pr c r).1 :: ((pr c r).2).map mkS := ih
      have hsub : ∀ k, a + 1 ≤ k → ∀ w, strSub x (a + 1) k = mkS w → strSub x a k = mkS (y :: w) := by
        intro k hk w e
        rw [sub_mk] at e ⊢
        rw [hd'] at e
        rw [hd]
        have e' := mkS_inj e
        have : k - a = (k - (a + 1)) + 1 := by omega
        rw [this, List.take_succ_cons, e']
      cases cuts with
      | nil =>
        have i2 : [strSub x (a + 1) x.length] = mkS (pr c r).1 :: ((pr c r).2).map mkS := ih'
        obtain ⟨q1, q2⟩ := List.cons.inj i2
        show [strSub x a x.length] = mkS (y :: (pr c r).1) :: ((pr c r).2).map mkS
        rw [hsub x.length (by omega) _ q1, ← q2]
      | cons k rest =>
        have i2 : strSub x (a + 1) k :: partsFrom x 1 (k + 1) rest = mkS (pr c r).1 :: ((pr c r).2).map mkS := ih'
        obtain ⟨q1, q2⟩ := List.cons.inj i2
        show strSub x a k :: partsFrom x 1 (k + 1) rest = mkS (y :: (pr c r).1) :: ((pr c r).2).map mkS
        rw [hsub k (hge k List.mem_cons_self) _ q1, q2]
theorem idx_nil {c : Nat} : ∀ {l : List Nat} {a : Nat}, idx c a l = [] → parts c l = [l]
  | [], _, _ => rfl
  | y :: r, a, h => by
    unfold idx at h
    split at h
    · cases h
    · rename_i hy
      rw [parts_miss hy]
      have ih := idx_nil h
      unfold parts at ih
      obtain ⟨q1, q2⟩ := List.cons.inj ih
      rw [q1, q2]
theorem kind_le (x : PySem.Str) (c : Nat) (hc : c < 256) : ¬ (Builtin.Str.strKind x < Builtin.Str.strKind ⟨#[c]⟩) := by
  have e : Builtin.Str.strKind (⟨#[c]⟩ : PySem.Str) = 1 := by
    unfold Builtin.Str.strKind
    rw [if_pos (by simp [hc])]
  rw [e]
  unfold Builtin.Str.strKind
  split
  · omega
  · split <;> omega
theorem split_parts (x : PySem.Str) (c : Nat) (hc : c < 256) : Txt.split x ⟨#[c]⟩ = (parts c x.cps.toList).map mkS := by
  unfold Txt.split
  have hl : (⟨#[c]⟩ : PySem.Str).length = 1 := rfl
  by_cases h0 : x.length < 1
  · have hx : x.cps.toList = [] := List.eq_nil_of_length_eq_zero (by rw [← len_list]; omega)
    rw [if_pos (by rw [hl, decide_eq_true h0]; rfl), hx]
    show [x] = [mkS []]
    rw [← hx, mkS_of]
  · rw [if_neg (by rw [hl, decide_eq_false h0, decide_eq_false (kind_le x c hc)]; decide), occ_idx]
    by_cases hn : idx c 0 x.cps.toList = []
    · rw [if_pos (by rw [hn]; rfl), idx_nil hn]
      show [x] = [mkS x.cps.toList]
      rw [mkS_of]
    · rw [if_neg (by intro z; exact hn (by simpa using z)), partsBetween_eq]
      exact partsFrom_idx x c x.cps.toList 0 rfl (by rw [len_list x]; omega)
/-! ### rows of words -/
def ne0 (w : List Nat) : Bool := !w.isEmpty
def words (l : List Nat) : List (List Nat) := (parts 32 l).filter ne0
def rows (l : List Nat) : List (List (List Nat)) := (parts 10 l).map words
end K9

set_option Elab.async false
set_option linter.all false
set_option maxRecDepth 100000
set_option maxHeartbeats 4000000
namespace K9
open PySem PySem.Spec PyProof.Rows L2
/-! ### the program's own defs -/
abbrev sName : Stmt := top 16
abbrev sNum : Stmt := top 17
abbrev sRows : Stmt := top 18
theorem scName : FnScope ["thing"] ["thing"] (defScope sName) := ⟨rfl, rfl, rfl, by decide +kernel, rfl, by decide +kernel, by decide +kernel⟩
theorem scNum : FnScope ["word", "figures"] ["word"] (defScope sNum) := ⟨rfl, rfl, rfl, by decide +kernel, rfl, by decide +kernel, by decide +kernel⟩
theorem scRows : FnScope ["text", "found", "line", "words", "word"] ["text"] (defScope sRows) := ⟨rfl, rfl, rfl, by decide +kernel, rfl, by decide +kernel, by decide +kernel⟩
section
variable {P : Program} {w : World} {K : PySem.W.Frag} {mg : PySem.Str → Option Value} {base : Heap} {f : Addr} {fd : FuncData}
/-! #### signs -/
def lowB (l : List Nat) : Bool := l.all fun c => !decide ([c] < ("a" : PySem.Str).cps.toList) && !decide (("z" : PySem.Str).cps.toList < [c])
def figB (l : List Nat) : Bool := l.all fun c => !decide ([c] < ("0" : PySem.Str).cps.toList) && !decide (("9" : PySem.Str).cps.toList < [c])
def nameB (x : V) : Bool := match x with
  | .str z => (decide (1 ≤ z.length) && decide (z.length ≤ 8)) && lowB z.cps.toList
  | _ => false
def spName (K : PySem.W.Frag) : Sp := fun vs H Q _ => ∃ (x : V) (T : String), vs = [x] ∧ TyB K H x T ∧ (∀ z, x = .str z → z.length ≤ sizeLine) ∧ ∀ H', Kept None H H' → Q (.bl (nameB x)) H'
theorem asc : ∀ c, c < 128 → (Unicode.isAlpha c = (Unicode.isLower c || (Unicode.isUpper c || Unicode.isTitle c))) ∧ (Unicode.isLower c = (!decide ([c] < ("a" : PySem.Str).cps.toList) && !decide (("z" : PySem.Str).cps.toList < [c]))) ∧ ((Unicode.isLower c && (Unicode.isUpper c || Unicode.isTitle c)) = false) := by decide +kernel
theorem low_asc {c : Nat} (h : (!decide ([c] < ("a" : PySem.Str).cps.toList) && !decide (("z" : PySem.Str).cps.toList < [c])) = true) : c < 128 := by
  obtain ⟨h1, h2⟩ := Bool.and_eq_true_iff.mp h
  have h3 : ¬ (("z" : PySem.Str).cps.toList < [c]) := fun e => by rw [decide_eq_true e] at h2; cases h2
  have e : ("z" : PySem.Str).cps.toList = [122] := by decide +kernel
  rw [e] at h3
  have : ¬ (122 : Nat) < c := fun e => h3 (List.Lex.rel e)
  omega
theorem name_low (l : List Nat) (h : l ≠ []) : ((l.all fun c => decide (c < 128)) && ((l.all Unicode.isAlpha) && (l.any Unicode.isLower && !(l.any fun c => Unicode.isUpper c || Unicode.isTitle c)))) = lowB l := by
  rw [Bool.eq_iff_iff]
  unfold lowB
  simp only [Bool.and_eq_true, List.all_eq_true, List.any_eq_true, decide_eq_true_eq, Bool.not_eq_true', List.any_eq_false]
  constructor
  · rintro ⟨h1, h2, h3, h4⟩ c hc
    obtain ⟨a1, a2, a3⟩ := asc c (h1 c hc)
    have e := h2 c hc
    rw [a1] at e
    have e4 : (Unicode.isUpper c || Unicode.isTitle c) = false := by simpa using h4 c hc
    rw [e4, Bool.or_false, a2] at e
    simpa using e
  · intro h1
    have key : ∀ c ∈ l, c < 128 ∧ Unicode.isLower c = true := fun c hc => by
      have q : (!decide ([c] < ("a" : PySem.Str).cps.toList) && !decide (("z" : PySem.Str).cps.toList < [c])) = true := by simpa using h1 c hc
      have lt := low_asc q
      exact ⟨lt, by rw [(asc c lt).2.1]; exact q⟩
    refine ⟨fun c hc => (key c hc).1, fun c hc => ?_, ?_, fun c hc => ?_⟩
    · rw [(asc c (key c hc).1).1, (key c hc).2]; rfl
    · cases l with
      | nil => exact absurd rfl h
      | cons c r => exact ⟨c, List.mem_cons_self, (key c List.mem_cons_self).2⟩
    · have q := (asc c (key c hc).1).2.2
      rw [(key c hc).2, Bool.true_and] at q
      simp [q]
theorem txt_name (z : PySem.Str) (h : 1 ≤ z.length) : (Txt.isascii z && (Txt.isalpha z && Txt.islower z)) = lowB z.cps.toList := by
  have hl : z.length = z.cps.toList.length := by simp [PySem.Str.length]
  have ne : z.cps.toList ≠ [] := fun e => by rw [hl, e] at h; simp at h
  rw [← name_low _ ne]
  unfold Txt.isascii Txt.isalpha Txt.islower
  rw [decide_eq_true (show z.length > 0 by omega), Bool.true_and]
  simp only [← Array.all_toList, ← Array.any_toList]
theorem tyb_str {K : PySem.W.Frag} {H : Hp} {x : V} {T : String} (t : TyB K H x T) : (T = "str" ∧ ∃ z, x = .str z) ∨ (T ≠ "str" ∧ nameB x = false) := by
  cases t with
  | str z => exact .inl ⟨rfl, z, rfl⟩
  | _ => exact .inr ⟨by decide, rfl⟩
theorem ok_name (F : FnP K "is_name" sName f fd) (m2 : mg "type" = none) (m3 : mg "str" = none) (m4 : mg "len" = none) (m5 : ∃ t, mg "LONGEST_NAME" = some (.int 8 t)) : FnOk P w K mg base CX0 2 f fd ["thing"] (spName K) := by
  obtain ⟨t5, m5⟩ := m5
  refine F.ok (k := 1) scName (fun vs H Q E h => ?_) (fun cdv A outer s H vs Q E hr h => ?_)
  · obtain ⟨x, T, rfl, _⟩ := h
    rfl
  · obtain ⟨x, T, rfl, hT, hz, q⟩ := h
    refine ⟨_, PSs.nox (pss_cons (ps_if (PW.pt (pw_or (pt_cmpR op_notTyB (pe_callTy call_type1 (by rfl) m2 (by decide +kernel) (pa_cons (pv 0) pa_nil)) (pe_bltn (v := .ty "str") (by rfl) m3 (by decide +kernel) rfl) (nomark _))
        (pw_or1 (pt_not (pt_chain op_le op_le pe_int (pe_callB call_len_str (by rfl) m4 PySem.boot_len (pa_cons (pv 0) pa_nil)) (pe_glob (v := .int 8) (by rfl) m5 ⟨_, rfl⟩)))))) (pss_one (ps_ret pe_bl)) pss_nil)
      (pss_one (ps_ret (pe_and (pe_m0 PySem.F.slot_str_isascii PySem.F.type_str_isascii mt_isascii (pv 0)) (pe_and (pe_m0 PySem.F.slot_str_isalpha PySem.F.type_str_isalpha mt_isalpha (pv 0)) (pe_one (pe_m0 PySem.F.slot_str_islower PySem.F.type_str_islower mt_islower (pv 0)))))))), ?_⟩
    refine ⟨x, rfl, x, T, rfl, hT, T, "str", rfl, rfl, _, rfl, ?_⟩
    rcases tyb_str hT with ⟨rfl, z, rfl⟩ | ⟨hn, hw⟩
    · rw [decide_eq_true rfl]
      refine iteF ⟨.str z, rfl, z, rfl, hz z rfl, 1, (z.length : Int), rfl, rfl, _, rfl, ?_⟩
      have bad : (decide (1 ≤ z.length) && decide (z.length ≤ 8)) = false → Q (.bl false) H := fun e => by
        have e2 := q H Kept.refl
        unfold nameB at e2
        dsimp only at e2
        rw [e] at e2
        exact e2
      by_cases h1 : 1 ≤ z.length
      · rw [decide_eq_true (show (1 : Int) ≤ (z.length : Int) by omega)]
        refine iteT ⟨(z.length : Int), 8, rfl, rfl, _, rfl, ?_⟩
        by_cases h2 : z.length ≤ 8
        · rw [decide_eq_true (show (z.length : Int) ≤ 8 by omega)]
          refine iteF ?_
          have all : Q (.bl (Txt.isascii z && (Txt.isalpha z && Txt.islower z))) H := by
            have e := q H Kept.refl
            unfold nameB at e
            dsimp only at e
            rw [decide_eq_true h1, decide_eq_true h2] at e
            rw [txt_name z h1]
            exact e
          refine ⟨.str z, rfl, ⟨z, rfl⟩, z, rfl, rfl, trivial, _, rfl, ?_⟩
          cases e1 : Txt.isascii z with
          | false => rw [e1] at all; exact iteF all
          | true =>
            rw [e1] at all
            refine iteT ⟨.str z, rfl, ⟨z, rfl⟩, z, rfl, rfl, trivial, _, rfl, ?_⟩
            cases e2 : Txt.isalpha z with
            | false => rw [e2] at all; exact iteF all
            | true =>
              rw [e2] at all
              exact iteT ⟨.str z, rfl, ⟨z, rfl⟩, z, rfl, rfl, trivial, all⟩
        · rw [decide_eq_false (show ¬ (z.length : Int) ≤ 8 by omega)]
          refine iteT ?_
          exact bad (by rw [decide_eq_false h2, Bool.and_false])
      · rw [decide_eq_false (show ¬ (1 : Int) ≤ (z.length : Int) by omega)]
        refine iteF ⟨_, rfl, iteT ?_⟩
        exact bad (by rw [decide_eq_false h1, Bool.false_and])
    · rw [decide_eq_false hn]
      refine iteT ?_
      have e := q H Kept.refl
      rw [hw] at e
      exact e
end
/-! ### number_in -/
theorem lt1 (c d : Nat) : ([c] < [d]) ↔ c < d := by
  rw [List.cons_lt_cons_iff]
  simp
theorem figB_iff (l : List Nat) : figB l = true ↔ NumText.AllDigits l := by
  unfold figB NumText.AllDigits
  rw [List.all_eq_true]
  have e0 : ("0" : PySem.Str).cps.toList = [48] := by decide +kernel
  have e9 : ("9" : PySem.Str).cps.toList = [57] := by decide +kernel
  rw [e0, e9]
  constructor
  · intro h c hc
    have q := h c hc
    simp only [Bool.and_eq_true, Bool.not_eq_true', decide_eq_false_iff_not, lt1] at q
    omega
  · intro h c hc
    have q := h c hc
    simp only [Bool.and_eq_true, Bool.not_eq_true', decide_eq_false_iff_not, lt1]
    omega
/-- the figures of a word -/
def fig (l : List Nat) : List Nat := if l.head? = some 45 then l.tail else l
theorem minus_eq : ("-" : PySem.Str) = mkS [45] := by decide +kernel
theorem affix_none (x : PySem.Str) : Txt.affix x Option.none = x := by unfold Txt.affix; rfl
theorem prefix_fig (z : PySem.Str) : Txt.removeprefix z ("-" : PySem.Str) = mkS (fig z.cps.toList) := by
  rw [minus_eq]
  unfold Txt.removeprefix fig
  have e : (mkS [45]).length = 1 := rfl
  have hs : Builtin.Str.subAt z (mkS [45]) 0 = true ↔ z.cps.toList.head? = some 45 := by
    have q := sub1 z 45 0
    have e2 : (⟨#[45]⟩ : PySem.Str).length = 1 := rfl
    rw [show z.cps.toList.head? = z.cps.toList[0]? by cases z.cps.toList <;> rfl]
    show Builtin.Str.subAt z ⟨#[45]⟩ 0 = true ↔ _
    constructor
    · intro h
      by_cases h1 : 0 + (⟨#[45]⟩ : PySem.Str).length ≤ z.length
      · exact q.mp ⟨h1, h⟩
      · exfalso
        have hz : z.cps.toList = [] := List.eq_nil_of_length_eq_zero (by rw [← len_list]; omega)
        rw [StrLaws.subAt_eq, hz] at h
        revert h
        decide
    · intro h
      exact (q.mpr h).2
  by_cases h : z.cps.toList.head? = some 45
  · rw [if_pos (hs.mpr h), if_pos h]
    have hc : ∃ r, z.cps.toList = 45 :: r := by
      cases q : z.cps.toList with
      | nil => rw [q] at h; cases h
      | cons a r => rw [q] at h; exact ⟨r, by rw [Option.some.inj h]⟩
    obtain ⟨r, hr⟩ := hc
    have hl := len_list z
    rw [hr, List.length_cons] at hl
    show (if (z.length - (mkS [45]).length == z.length) = true then z else Builtin.Str.strSub z (mkS [45]).length z.length) = _
    rw [e, if_neg (by rw [beq_iff_eq]; omega), sub_mk, hr]
    show mkS ((List.drop 1 (45 :: r)).take (z.length - 1)) = mkS r
    rw [hl, List.drop_one, List.tail_cons, Nat.add_sub_cancel, List.take_length]
  · rw [if_neg (fun q => h (hs.mp q)), if_neg h, affix_none, mkS_of]
def numOk (l : List Nat) : Bool := ((decide (1 ≤ (fig l).length) && decide ((fig l).length ≤ 4)) && figB (fig l)) && !(decide ((fig l).head? = some 48) && !decide (l = [48]))
def numI (l : List Nat) : Int := if l.head? = some 45 then -((NumText.digitsVal (fig l) : Nat) : Int) else ((NumText.digitsVal (fig l) : Nat) : Int)
def numV (l : List Nat) : V := if numOk l = true then .int (numI l) else .non
theorem num_read {z : PySem.Str} (h : numOk z.cps.toList = true) : intText? z = some (numI z.cps.toList) ∧ z.length ≤ 640 := by
  unfold numOk at h
  simp only [Bool.and_eq_true, decide_eq_true_eq] at h
  obtain ⟨⟨⟨h1, h2⟩, h3⟩, _⟩ := h
  have ad := (figB_iff _).mp h3
  have hz := len_list z
  unfold numI
  by_cases hm : z.cps.toList.head? = some 45
  · rw [if_pos hm]
    have e : z.cps.toList = 45 :: fig z.cps.toList := by
      unfold fig
      rw [if_pos hm]
      cases q : z.cps.toList with
      | nil => rw [q] at hm; cases hm
      | cons a r => rw [q] at hm; rw [Option.some.inj hm]; rfl
    have hl : z.length = (fig z.cps.toList).length + 1 := by rw [hz]; conv => lhs; rw [e]; rw [List.length_cons]
    exact ⟨intText_neg e ad (fun q => by rw [q] at h1; exact absurd h1 (by decide)) (by omega), by omega⟩
  · rw [if_neg hm]
    have e : fig z.cps.toList = z.cps.toList := by unfold fig; rw [if_neg hm]
    rw [e] at ad h1 h2 ⊢
    exact ⟨intText_digits ad (fun q => by rw [q] at h1; exact absurd h1 (by decide)) (by omega), by omega⟩
def spNum : Sp := fun vs H Q _ => ∃ z : PySem.Str, vs = [.str z] ∧ z.length ≤ sizeLine ∧ ∀ H', Kept None H H' → Q (numV z.cps.toList) H'
section
variable {P : Program} {w : World} {K : PySem.W.Frag} {mg : PySem.Str → Option Value} {base : Heap} {f fF : Addr} {fd fdF : FuncData}
theorem ascd : ∀ c, c < 128 → Unicode.isDigit c = (!decide ([c] < ("0" : PySem.Str).cps.toList) && !decide (("9" : PySem.Str).cps.toList < [c])) := by decide +kernel
theorem fig_asc {c : Nat} (h : (!decide ([c] < ("0" : PySem.Str).cps.toList) && !decide (("9" : PySem.Str).cps.toList < [c])) = true) : c < 128 := by
  have e9 : ("9" : PySem.Str).cps.toList = [57] := by decide +kernel
  rw [e9] at h
  simp only [Bool.and_eq_true, Bool.not_eq_true', decide_eq_false_iff_not, lt1] at h
  omega
theorem txt_fig (l : List Nat) (h : l ≠ []) : (Txt.isascii (mkS l) && Txt.isdigit (mkS l)) = figB l := by
  have hl : (mkS l).length = l.length := mkS_len l
  have e0 : 0 < l.length := List.length_pos_iff.mpr h
  unfold Txt.isascii Txt.isdigit
  rw [decide_eq_true (show (mkS l).length > 0 by omega), Bool.true_and]
  simp only [← Array.all_toList]
  rw [mkS_list, Bool.eq_iff_iff]
  unfold figB
  simp only [Bool.and_eq_true, List.all_eq_true, decide_eq_true_eq]
  constructor
  · rintro ⟨h1, h2⟩ c hc
    have q := h2 c hc
    rw [ascd c (h1 c hc)] at q
    simpa using q
  · intro h1
    have key : ∀ c ∈ l, c < 128 ∧ Unicode.isDigit c = true := fun c hc => by
      have q : (!decide ([c] < ("0" : PySem.Str).cps.toList) && !decide (("9" : PySem.Str).cps.toList < [c])) = true := by simpa using h1 c hc
      have lt := fig_asc q
      exact ⟨lt, by rw [ascd c lt]; exact q⟩
    exact ⟨fun c hc => (key c hc).1, fun c hc => (key c hc).2⟩
theorem zero_list : ("0" : PySem.Str) = mkS [48] := by decide +kernel
theorem ok_num (F : FnP K "number_in" sNum f fd) 
    (m1 : mg "len" = none) (m2 : mg "int" = none) (m3 : ∃ t, mg "MOST_FIGURES" = some (.int 4 t)) : FnOk P w K mg base CX0 3 f fd ["word"] spNum := by
  obtain ⟨t3, m3⟩ := m3
  refine F.ok (k := 2) scNum (fun vs H Q E h => ?_) (fun cdv A outer s H vs Q E hr h => ?_)
  · obtain ⟨z, rfl, _⟩ := h
    rfl
  · obtain ⟨z, rfl, hz, q⟩ := h
    refine ⟨_, PSs.nox (pss_cons (ps_set (i := 1) scNum.nd rfl (Or.inl rfl) (pe_m1 PySem.F.slot_str_removeprefix PySem.F.type_str_removeprefix mt_removeprefix (pv 0) pe_str))
      (pss_cons (ps_if (pt_not (pt_chain op_le op_le pe_int (pe_callB call_len_str (by rfl) m1 PySem.boot_len (pa_cons (pv 1) pa_nil)) (pe_glob (v := .int 4) (by rfl) m3 ⟨_, rfl⟩))) (pss_one (ps_ret pe_non)) pss_nil)
      (pss_cons (ps_if (PW.pt (pw_or (pt_not (pt_val (pe_m0 PySem.F.slot_str_isascii PySem.F.type_str_isascii mt_isascii (pv 1)))) (pw_or1 (pt_not (pt_val (pe_m0 PySem.F.slot_str_isdigit PySem.F.type_str_isdigit mt_isdigit (pv 1))))))) (pss_one (ps_ret pe_non)) pss_nil)
      (pss_cons (ps_if (PW.pt (pw_and (pt_cmpR op_eq (pe_ix ix_str (pv 1) pe_int (fun _ _ => rfl)) pe_str (nomark _)) (pw_and1 (pt_cmpR op_ne (pv 0) pe_str (nomark _))))) (pss_one (ps_ret pe_non)) pss_nil)
      (pss_one (ps_ret (pe_callTy call_int_str (by rfl) m2 (by decide +kernel) (pa_cons (pv 0) pa_nil)))))))), ?_⟩
    have hfl : (mkS (fig z.cps.toList)).length = (fig z.cps.toList).length := mkS_len _
    have hfz : (fig z.cps.toList).length ≤ z.length := by
      rw [len_list]; unfold fig; split
      · rw [List.length_tail]; omega
      · exact Nat.le_refl _
    have bad : ∀ H', Kept None H H' → numOk z.cps.toList = false → Q .non H' := fun H' kp e => by
      have e2 := q H' kp
      unfold numV at e2
      rw [e] at e2
      exact e2
    refine ⟨.str z, rfl, ⟨z, rfl⟩, z, "-", rfl, rfl, hz, ?_⟩
    rw [prefix_fig]
    refine ⟨.str (mkS (fig z.cps.toList)), rfl, mkS (fig z.cps.toList), rfl, (by rw [hfl]; omega), 1, ((mkS (fig z.cps.toList)).length : Int), rfl, rfl, _, rfl, ?_⟩
    rw [hfl]
    by_cases h1 : 1 ≤ (fig z.cps.toList).length
    · rw [decide_eq_true (show (1 : Int) ≤ ((fig z.cps.toList).length : Int) by omega)]
      refine iteT ⟨((fig z.cps.toList).length : Int), 4, rfl, rfl, _, rfl, ?_⟩
      by_cases h2 : (fig z.cps.toList).length ≤ 4
      · rw [decide_eq_true (show ((fig z.cps.toList).length : Int) ≤ 4 by omega)]
        refine iteF ?_
        have k1 : Kept None H H := Kept.refl
        have hd := txt_fig (fig z.cps.toList) (fun q => by rw [q] at h1; exact absurd h1 (by decide))
        have no : figB (fig z.cps.toList) = false → numOk z.cps.toList = false := fun h3 => by unfold numOk; rw [h3, Bool.and_false, Bool.false_and]
        refine ⟨.str (mkS (fig z.cps.toList)), rfl, ⟨_, rfl⟩, mkS (fig z.cps.toList), rfl, rfl, trivial, _, rfl, ?_⟩
        cases h3a : Txt.isascii (mkS (fig z.cps.toList)) with
        | false =>
          rw [h3a, Bool.false_and] at hd
          exact iteT (bad H k1 (no hd.symm))
        | true =>
        refine iteF ⟨.str (mkS (fig z.cps.toList)), rfl, ⟨_, rfl⟩, mkS (fig z.cps.toList), rfl, rfl, trivial, _, rfl, ?_⟩
        cases h3b : Txt.isdigit (mkS (fig z.cps.toList)) with
        | false =>
          rw [h3b, Bool.and_false] at hd
          exact iteT (bad H k1 (no hd.symm))
        | true =>
          rw [h3a, h3b] at hd
          have h3 : figB (fig z.cps.toList) = true := hd.symm
          refine iteF ?_
          obtain ⟨c, r, hcr⟩ : ∃ c r, fig z.cps.toList = c :: r := by
            cases e : fig z.cps.toList with
            | nil => rw [e] at h1; exact absurd h1 (by decide)
            | cons c r => exact ⟨c, r, rfl⟩
          refine ⟨.str (mkS (fig z.cps.toList)), rfl, mkS (fig z.cps.toList), 0, c, rfl, rfl, (by rw [hfl]; omega), ?_, rfl, _, rfl, ?_⟩
          · rw [mkS_list, hcr]; exact atI_nat (j := 0) rfl
          · have ec : decide (V.str (⟨#[c]⟩ : PySem.Str) = V.str ("0" : PySem.Str)) = decide (c = 48) := by
              refine decide_eq_decide.mpr ?_
              rw [zero_list]
              constructor
              · intro h
                have e := mkS_inj (a := [c]) (V.str.inj h)
                exact (List.cons.inj e).1
              · intro h; subst h; rfl
            have ez : decide (V.str z = V.str ("0" : PySem.Str)) = decide (z.cps.toList = [48]) := by
              refine decide_eq_decide.mpr ?_
              rw [zero_list]
              constructor
              · intro h; rw [V.str.inj h, mkS_list]
              · intro h; rw [← mkS_of z, h]
            have hh : (fig z.cps.toList).head? = some c := by rw [hcr]; rfl
            have fin : numOk z.cps.toList = true → ∃ a n, [V.str z] = [V.str a] ∧ intText? a = some n ∧ a.length ≤ 640 ∧ Q (V.int n) H := fun e => by
              obtain ⟨e1, e2⟩ := num_read e
              refine ⟨z, _, rfl, e1, e2, ?_⟩
              have e3 := q H k1
              unfold numV at e3
              rw [if_pos e] at e3
              exact e3
            have hok : numOk z.cps.toList = !(decide (c = 48) && !decide (z.cps.toList = [48])) := by
              unfold numOk
              rw [decide_eq_true h1, decide_eq_true h2, h3, hh]
              have : decide (some c = some 48) = decide (c = 48) := decide_eq_decide.mpr ⟨fun h => Option.some.inj h, fun h => by rw [h]⟩
              rw [this]
              rfl
            rw [ec]
            cases hc : decide (c = 48) with
            | false =>
              refine iteF (iteF ⟨.str z, rfl, ?_⟩)
              exact fin (by rw [hok, hc]; rfl)
            | true =>
              refine iteT ⟨.str z, rfl, rfl, _, rfl, ?_⟩
              rw [ez]
              cases hzz : decide (z.cps.toList = [48]) with
              | false =>
                refine iteT ?_
                exact bad H k1 (by rw [hok, hc, hzz]; rfl)
              | true =>
                refine iteF ⟨.str z, rfl, ?_⟩
                exact fin (by rw [hok, hc, hzz]; rfl)
      · rw [decide_eq_false (show ¬ ((fig z.cps.toList).length : Int) ≤ 4 by omega)]
        refine iteT ?_
        exact bad H Kept.refl (by unfold numOk; rw [decide_eq_false h2, Bool.and_false, Bool.false_and, Bool.false_and])
    · rw [decide_eq_false (show ¬ (1 : Int) ≤ ((fig z.cps.toList).length : Int) by omega)]
      refine iteF ⟨_, rfl, iteT ?_⟩
      exact bad H Kept.refl (by unfold numOk; rw [decide_eq_false h1, Bool.false_and, Bool.false_and, Bool.false_and])
end
/-! ### rows of words -/
def wv (w : List Nat) : V := .str (mkS w)
theorem words_len (l : List Nat) : (words l).length ≤ l.length + 1 := Nat.le_trans (List.length_filter_le _ _) (parts_len 32 l)
theorem sp_eq : (" " : PySem.Str) = ⟨#[32]⟩ := by decide +kernel
theorem nl_eq : ("\n" : PySem.Str) = ⟨#[10]⟩ := by decide +kernel
theorem split_sp (z : PySem.Str) : (Txt.split z (" " : PySem.Str)).map V.str = (parts 32 z.cps.toList).map wv := by
  rw [sp_eq, split_parts z 32 (by decide), List.map_map]; rfl
theorem split_nl (z : PySem.Str) : (Txt.split z ("\n" : PySem.Str)).map V.str = (parts 10 z.cps.toList).map wv := by
  rw [nl_eq, split_parts z 10 (by decide), List.map_map]; rfl
theorem take_map {α β : Type} (f : α → β) (l : List α) (i : Nat) (x : α) (h : l[i]? = some x) : (l.take (i + 1)).map f = (l.take i).map f ++ [f x] := by
  rw [List.take_add_one, h, List.map_append]; rfl
theorem take_filter {α : Type} (p : α → Bool) (l : List α) (i : Nat) (x : α) (h : l[i]? = some x) : (l.take (i + 1)).filter p = (l.take i).filter p ++ (if p x = true then [x] else []) := by
  rw [List.take_add_one, h, List.filter_append]
  show _ ++ List.filter p [x] = _
  cases e : p x <;> simp [e]
/-- a name's truth -/
def tTrV (K : PySem.W.Frag) (i : Nat) : TT := fun σ H Q => tVar i σ H fun x H' => ∃ k, TruV K x H' k ∧ Q k H'
def partsE (l : List Nat) : List (List Nat) := if l = [] then [] else parts 32 l
theorem partsE_words (l : List Nat) : (partsE l).filter ne0 = words l := by
  unfold partsE words
  by_cases h : l = []
  · rw [if_pos h, h]; rfl
  · rw [if_neg h]
theorem partsE_len (l : List Nat) : (partsE l).length ≤ l.length + 1 := by
  unfold partsE
  by_cases h : l = []
  · rw [if_pos h]; exact Nat.zero_le _
  · rw [if_neg h]; exact parts_len 32 l
theorem empty_eq : ("" : PySem.Str) = mkS [] := by decide +kernel
theorem inV_ws : ∀ ws : List (List Nat), inV (.str ("" : PySem.Str)) (ws.map wv) = decide ([] ∈ ws)
  | [] => rfl
  | y :: r => by
    have ih := inV_ws r
    unfold inV at ih ⊢
    rw [List.map_cons, List.any_cons, ih, empty_eq]
    cases y with
    | nil => simp [wv, eqV]
    | cons c d =>
      have h2 : ¬ (mkS (c :: d) = mkS []) := fun z => by cases mkS_inj z
      simp [eqV, wv, h2]
theorem flat_ws : ∀ ws : List (List Nat), (ws.map wv).all flatV = true
  | [] => rfl
  | _ :: r => flat_ws r
theorem filter_all : ∀ ws : List (List Nat), ¬ [] ∈ ws → ws.filter ne0 = ws
  | [], _ => rfl
  | [] :: r, h => absurd List.mem_cons_self h
  | (c :: d) :: r, h => by
    rw [List.filter_cons_of_pos rfl, filter_all r fun z => h (List.mem_cons_of_mem _ z)]
/-! #### rows_of -/
/-- at p stands a list of lists of words -/
def RowsAt (H0 H : Hp) (p : Addr) (rs : List (List (List Nat))) : Prop := ∃ as : List Addr, H p = some (.lst (as.map V.ref)) ∧ as.length = rs.length ∧ ∀ (i : Nat) (a : Addr) (r : List (List Nat)), as[i]? = some a → rs[i]? = some r → H a = some (.lst (r.map wv)) ∧ H0 a = none
theorem rows_len (l : List Nat) : (rows l).length ≤ l.length + 1 := by unfold rows; rw [List.length_map]; exact parts_len 10 l
def spRows : Sp := fun vs H Q _ => ∃ z : PySem.Str, vs = [.str z] ∧ z.length ≤ 1000000 ∧ ∀ p H', H p = none → Kept None H H' → RowsAt H H' p (rows z.cps.toList) → Q (.ref p) H'
/-- the rows that are made so far -/
structure Ra (H0 H' : Hp) (F : Addr) (ls : List (List Nat)) (as : List Addr) : Prop where
  k : Kept None H0 H'
  nF : H0 F = none
  f : H' F = some (.lst (as.map V.ref))
  len : as.length = ls.length
  old : ∀ (j : Nat) (a : Addr) (l : List Nat), as[j]? = some a → ls[j]? = some l → H' a = some (.lst ((words l).map wv)) ∧ a ≠ F ∧ H0 a = none
theorem Ra.stay {H0 H' H2 : Hp} {F : Addr} {ls : List (List Nat)} {as : List Addr} (p : Ra H0 H' F ls as) (k : Kept None H' H2) : Ra H0 H2 F ls as :=
  ⟨p.k.trans k, p.nF, k.lst p.f (fun z => z), p.len, fun j a l e1 e2 => let ⟨h1, h2, h3⟩ := p.old j a l e1 e2; ⟨k.lst h1 (fun z => z), h2, h3⟩⟩
theorem Ra.more {H0 H' : Hp} {F : Addr} {ls : List (List Nat)} {as : List Addr} (p : Ra H0 H' F ls as) {a : Addr} {l : List Nat} (ha : H' a = some (.lst ((words l).map wv))) (n : a ≠ F) (n0 : H0 a = none) : Ra H0 (upd H' F (.lst (as.map V.ref ++ [.ref a]))) F (ls ++ [l]) (as ++ [a]) := by
  refine ⟨fun b o e z => ?_, p.nF, by rw [upd_same, List.map_append]; rfl, by rw [List.length_append, List.length_append, p.len]; rfl, fun j b m e1 e2 => ?_⟩
  · rw [upd_ne (ne_of_none e p.nF)]
    exact p.k b o e z
  · by_cases hj : j < as.length
    · rw [List.getElem?_append_left hj] at e1
      rw [List.getElem?_append_left (by rw [← p.len]; exact hj)] at e2
      obtain ⟨f1, f2, f3⟩ := p.old j b m e1 e2
      exact ⟨by rw [upd_ne f2]; exact f1, f2, f3⟩
    · have hj2 : j = as.length := by
        have := (List.getElem?_eq_some_iff.mp e1).1
        rw [List.length_append] at this
        simp only [List.length_cons, List.length_nil] at this
        omega
      subst hj2
      rw [List.getElem?_append_right (Nat.le_refl _), Nat.sub_self] at e1
      rw [p.len, List.getElem?_append_right (Nat.le_refl _), Nat.sub_self] at e2
      have eb : a = b := Option.some.inj e1
      have el : l = m := Option.some.inj e2
      subst eb
      subst el
      exact ⟨by rw [upd_ne n]; exact ha, n, n0⟩
section
variable {P : Program} {w : World} {K : PySem.W.Frag} {mg : PySem.Str → Option Value} {base : Heap} {f fW : Addr} {fd fdW : FuncData}
theorem ok_rows (F : FnP K "rows_of" sRows f fd) : FnOk P w K mg base CX0 2 f fd ["text"] spRows := by
  refine F.ok (k := 1) scRows (fun vs H Q E h => ?_) (fun cdv A outer s H vs Q E hr h => ?_)
  · obtain ⟨z, rfl, _⟩ := h
    rfl
  · obtain ⟨z, rfl, hz, q⟩ := h
    refine ⟨_, PSs.nox (pss_cons (ps_set (i := 1) scRows.nd rfl (Or.inl rfl) (pe_lst pa_nil))
      (pss_cons (ps_for PassesOwn.never rfl (pi_list (pe_split (pv 0) pe_str)) (pg_name (i := 2) scRows.nd rfl (Or.inl rfl))
        (pss_cons (ps_set (i := 3) scRows.nd rfl (Or.inl rfl) (pe_ifExp (pt_truth (pv 2) (by intro _; rfl)) (pe_split (pv 2) pe_str) (pe_lst pa_nil)))
        (pss_one (ps_expr (pe_bm PySem.F.plainAttrs_list PySem.F.slot_list_append PySem.F.type_list_append mt_append (pv 1) (pa_cons (pe_ifExp (pt_cmpR op_in_seq pe_str (pv 3) (by rfl))
          (pe_lc (own := [("word", 4)]) (g := gName 4) (tt := tTrV K 4) (te := tVar 4) rfl scRows.nd (pi_list (pv 3)) (blkOk_by (own := [("word", 4)]) (N := ["text", "found", "line", "words", "word"]) (sc := defScope sRows) (by decide +kernel))
            (fun _ _ _ _ _ => pg_name (i := 4) scRows.nd rfl (Or.inl rfl)) (fun _ _ _ _ _ => pts_one (by exact (pt_truth (pv 4) (by intro _; rfl)))) (fun _ _ _ _ _ => pv 4)) (pv 3)) pa_nil))))))
      (pss_one (ps_ret (pv 1))))), ?_⟩
    have hsz := sizeLine_eq
    have hzl := len_list z
    have hpl := parts_len 10 z.cps.toList
    refine ⟨by show 0 ≤ sizeLine; omega, fun F1 hF => ?_⟩
    refine ⟨.str z, rfl, ⟨z, rfl⟩, z, "\n", rfl, rfl, by decide +kernel, by omega, fun p hp => ?_⟩
    rw [split_nl]
    have pF : p ≠ F1 := fun e => by rw [e, upd_same] at hp; cases hp
    refine ⟨p, rfl, ⟨_, .inl (.inl upd_same)⟩, ?_⟩
    refine for_list (K := K) (a := p) (xs := (parts 10 z.cps.toList).map wv) (fun i σ H' => ∃ (x2 x3 x4 : Option V) (as : List Addr), σ = [some (.str z), some (.ref F1), x2, x3, x4] ∧ H' p = some (.lst ((parts 10 z.cps.toList).map wv)) ∧ Ra H H' F1 ((parts 10 z.cps.toList).take i) as)
      ⟨none, none, none, [], rfl, upd_same, ⟨(Kept.refl.new hF).trans (Kept.refl.new hp), hF, by rw [upd_ne (Ne.symm pF), upd_same]; rfl, rfl, fun j a l e => by simp at e⟩⟩ (fun i σ H' _ h => ?_) (fun i x σ H' hx h => ?_) (fun σ H' h => ?_)
    · obtain ⟨_, _, _, _, _, h, _⟩ := h
      exact .inl (.inl h)
    · rw [List.getElem?_map] at hx
      obtain ⟨u, hu, rfl⟩ := Option.map_eq_some_iff.mp hx
      obtain ⟨x2, x3, x4, as, rfl, hp', ra⟩ := h
      have hul : u.length ≤ z.length := by rw [hzl]; exact parts_mem_len 10 _ u (List.mem_of_getElem? hu)
      have ht : (parts 10 z.cps.toList).take (i + 1) = (parts 10 z.cps.toList).take i ++ [u] := by rw [List.take_add_one, hu]; rfl
      have asl : as.length ≤ z.length + 1 := by rw [ra.len, List.length_take]; omega
      refine ⟨wv u, rfl, _, ⟨by show (mkS u).length ≤ sizeLine; rw [mkS_len]; omega, rfl⟩, ?_⟩
      have ek : (((mkS u).length : Int) != 0) = ne0 u := by
        rw [mkS_len]; unfold ne0
        cases u with
        | nil => rfl
        | cons a r => simp; omega
      rw [ek, ht]
      cases hn : ne0 u with
      | false =>
        have u0 : u = [] := by cases u with | nil => rfl | cons a r => cases hn
        subst u0
        refine iteF ⟨by show 0 ≤ sizeLine; omega, fun a ha => ?_⟩
        have ra2 : Ra H (upd H' a (.lst [])) F1 ((parts 10 z.cps.toList).take i) as := ra.stay (Kept.refl.new ha)
        have aF : a ≠ F1 := fun e => by rw [e, ra.f] at ha; cases ha
        have pa : a ≠ p := fun e => by rw [e, hp'] at ha; cases ha
        have a0 : H a = none := ra.k.free ha
        refine ⟨.ref F1, rfl, .inl ⟨rfl, _, SqL.of ra2.f⟩, .ref a, rfl, a, [], rfl, .inl (SqL.of upd_same), rfl, rfl, _, rfl, ?_⟩
        refine iteF ⟨.ref a, rfl, F1, _, .ref a, rfl, rfl, ra2.f, by rw [List.length_map]; omega, ?_⟩
        exact ⟨_, _, _, as ++ [a], rfl, by rw [upd_ne pF, upd_ne pa.symm]; exact hp', ra2.more (by rw [upd_same]; rfl) aF a0⟩
      | true =>
        refine iteT ⟨wv u, rfl, ⟨_, rfl⟩, mkS u, " ", rfl, rfl, by decide +kernel, by rw [mkS_len]; omega, fun a ha => ?_⟩
        rw [split_sp, mkS_list]
        have hpu := parts_len 32 u
        have ra2 : Ra H (upd H' a (.lst ((parts 32 u).map wv))) F1 ((parts 10 z.cps.toList).take i) as := ra.stay (Kept.refl.new ha)
        have aF : a ≠ F1 := fun e => by rw [e, ra.f] at ha; cases ha
        have pa : a ≠ p := fun e => by rw [e, hp'] at ha; cases ha
        have a0 : H a = none := ra.k.free ha
        have hp2 : upd H' a (.lst ((parts 32 u).map wv)) p = some (.lst ((parts 10 z.cps.toList).map wv)) := by rw [upd_ne pa.symm]; exact hp'
        have e2 : upd H' a (.lst ((parts 32 u).map wv)) a = some (.lst ((parts 32 u).map wv)) := upd_same
        refine ⟨.ref F1, rfl, .inl ⟨rfl, _, SqL.of ra2.f⟩, .ref a, rfl, a, _, rfl, .inl (SqL.of e2), rfl, flat_ws _, _, rfl, ?_⟩
        rw [if_neg Bool.false_ne_true, inV_ws]
        generalize upd H' a (.lst ((parts 32 u).map wv)) = H2 at ra2 hp2 e2 ⊢
        cases hin : decide ([] ∈ parts 32 u) with
        | false =>
          have e := filter_all _ (of_decide_eq_false hin)
          refine iteF ⟨.ref a, rfl, F1, _, .ref a, rfl, rfl, ra2.f, by rw [List.length_map]; omega, ?_⟩
          exact ⟨_, _, _, as ++ [a], rfl, by rw [upd_ne pF]; exact hp2, ra2.more (by rw [e2]; unfold words; rw [e]) aF a0⟩
        | true =>
          refine iteT ⟨.ref a, rfl, a, rfl, ⟨_, SqL.of e2⟩, fun D hD => ?_⟩
          refine lc_list (K := K) (a := a) (xs := (parts 32 u).map wv) (fun i H' => Kept None H2 H' ∧ H' D = some (.lst ((((parts 32 u).take i).filter ne0).map wv)))
            ⟨Kept.refl.new hD, upd_same⟩ (fun i H' _ h => .inl (.inl (h.1.lst e2 (fun z => z)))) (fun i x H' hx h => ?_) (fun H' h => ?_)
          · rw [List.getElem?_map] at hx
            obtain ⟨v, hv, rfl⟩ := Option.map_eq_some_iff.mp hx
            obtain ⟨k1, k2⟩ := h
            have hvl : v.length ≤ u.length := parts_mem_len 32 _ v (List.mem_of_getElem? hv)
            refine ⟨rfl, wv v, rfl, _, ⟨by show (mkS v).length ≤ sizeLine; rw [mkS_len]; omega, rfl⟩, ?_⟩
            have ek : (((mkS v).length : Int) != 0) = ne0 v := by
              rw [mkS_len]; unfold ne0
              cases v with
              | nil => rfl
              | cons a r => simp; omega
            rw [ek]
            have tf := take_filter ne0 _ i v hv
            cases hn : ne0 v with
            | true =>
              rw [hn, if_pos rfl] at tf
              have hlen : ((((parts 32 u).take i).filter ne0).map wv).length ≤ z.length + 1 := by
                rw [List.length_map]
                refine Nat.le_trans (List.length_filter_le _ _) ?_
                rw [List.length_take]
                omega
              refine iteT ⟨wv v, rfl, _, k2, by omega, fun b o e n => ?_, ?_⟩
              · rw [upd_ne (ne_of_none e hD)]
                exact k1 b o e n
              · rw [upd_same, tf, List.map_append]
                rfl
            | false =>
              rw [hn, if_neg Bool.false_ne_true, List.append_nil] at tf
              refine iteF ⟨k1, ?_⟩
              rw [tf]
              exact k2
          · rw [List.length_map, List.take_length] at h
            obtain ⟨k1, k2⟩ := h
            have ra3 := ra2.stay k1
            have DF : D ≠ F1 := fun e => by rw [e, ra2.f] at hD; cases hD
            refine ⟨F1, _, .ref D, rfl, rfl, ra3.f, by rw [List.length_map]; omega, ?_⟩
            exact ⟨_, _, _, as ++ [D], rfl, by rw [upd_ne pF]; exact k1.lst hp2 (fun z => z), ra3.more k2 DF (ra2.k.free hD)⟩
    · obtain ⟨x2, x3, x4, as, rfl, hp', ra⟩ := h
      rw [List.length_map, List.take_length] at ra
      refine ⟨.ref F1, rfl, q F1 H' ra.nF ra.k ⟨as, ra.f, by rw [ra.len]; unfold rows; rw [List.length_map], fun i a r e1 e2 => ?_⟩⟩
      unfold rows at e2
      rw [List.getElem?_map] at e2
      obtain ⟨l, hl, rfl⟩ := Option.map_eq_some_iff.mp e2
      exact ⟨(ra.old i a l e1 hl).1, (ra.old i a l e1 hl).2.2⟩
end
end K9

set_option Elab.async false
set_option linter.all false
set_option maxRecDepth 100000
set_option maxHeartbeats 4000000
namespace K9
open PySem PySem.Spec PyProof.Rows L2
/-! ### programs as trees, their lines -/
/-- a name by its form -/
def Nm (x : PySem.Str) : Prop := nameB (.str x) = true
/-- figures -/
def dec (n : Nat) : PySem.Str := PySem.Str.ofString (toString ((n : Nat) : Int))
inductive Op where
  | add | less | and | or | unlike | same | below
def Op.name : Op → PySem.Str
  | .add => "add"
  | .less => "less"
  | .and => "and"
  | .or => "or"
  | .unlike => "unlike"
  | .same => "same"
  | .below => "below"
inductive Ex where
  | num (n : Nat)
  | copy (y : PySem.Str)
  | two (o : Op) (y z : PySem.Str)
  | up (y : PySem.Str) (k : Nat)
  | down (y : PySem.Str) (k : Nat)
  | pick (c y z : PySem.Str)
def Ex.word : Ex → PySem.Str
  | .num _ => "number"
  | .copy _ => "copy"
  | .two o _ _ => o.name
  | .up _ _ => "up"
  | .down _ _ => "down"
  | .pick _ _ _ => "pick"
def Ex.parts : Ex → List V
  | .num n => [.int (n : Int)]
  | .copy y => [.str y]
  | .two _ y z => [.str y, .str z]
  | .up y k => [.str y, .int (k : Int)]
  | .down y k => [.str y, .int (k : Int)]
  | .pick c y z => [.str c, .str y, .str z]
def Ex.vs (e : Ex) : List V := .str e.word :: e.parts
def Ex.names : Ex → List PySem.Str
  | .num _ => []
  | .copy y => [y]
  | .two _ y z => [y, z]
  | .up y _ => [y]
  | .down y _ => [y]
  | .pick c y z => [c, y, z]
/-- the words of an expression -/
def Ex.words : Ex → List PySem.Str
  | .num n => ["number", dec n]
  | .copy y => ["copy", y]
  | .two o y z => [o.name, y, z]
  | .up y k => ["up", y, dec k]
  | .down y k => ["down", y, dec k]
  | .pick c y z => ["pick", c, y, z]
def Ex.ok (v : Nat) : Ex → Prop
  | .num n => n < 2 ^ v
  | .up _ k => k ≤ 11
  | .down _ k => k ≤ 11
  | _ => True
inductive Tr where
  | nil
  | set (x : PySem.Str) (e : Ex) (t : Tr)
  | tell (x : PySem.Str) (t : Tr)
  | ite (x : PySem.Str) (a b t : Tr)
  | rnd (n : Nat) (a t : Tr)
def Tr.all : Tr → Nat
  | .nil => 0
  | .set _ _ t => 1 + t.all
  | .tell _ t => 1 + t.all
  | .ite _ a b t => 1 + a.all + b.all + t.all
  | .rnd _ a t => 1 + a.all + t.all
def Tr.len : Tr → Nat
  | .nil => 0
  | .set _ _ t => 1 + t.len
  | .tell _ t => 1 + t.len
  | .ite _ _ _ t => 1 + t.len
  | .rnd _ _ t => 1 + t.len
/-- as read at that depth, within so many rounds: names, numbers, how deep -/
def Tr.fine (v : Nat) : Nat → Nat → Tr → Prop
  | _, _, .nil => True
  | d, r, .set x e t => Nm x ∧ (∀ y ∈ e.names, Nm y) ∧ e.ok v ∧ d ≤ 6 ∧ t.fine v d r
  | d, r, .tell x t => Nm x ∧ d ≤ 6 ∧ t.fine v d r
  | d, r, .ite x a b t => Nm x ∧ d ≤ 6 ∧ a.fine v (d + 1) r ∧ b.fine v (d + 1) r ∧ t.fine v d r
  | d, r, .rnd n a t => n ≤ 12 ∧ r < 3 ∧ d ≤ 6 ∧ a.fine v (d + 1) (r + 1) ∧ t.fine v d r
/-- its lines -/
def Tr.lines : Tr → List (List PySem.Str)
  | .nil => []
  | .set x e t => (("set" : PySem.Str) :: x :: e.words) :: t.lines
  | .tell x t => ["tell", x] :: t.lines
  | .ite x a b t => ["if", x] :: (a.lines ++ [("else" : PySem.Str)] :: (b.lines ++ [("end" : PySem.Str)] :: t.lines))
  | .rnd n a t => ["round", dec n] :: (a.lines ++ [("end" : PySem.Str)] :: t.lines)
/-- the rows of a tree, as items -/
inductive Its (H : Hp) : List V → Tr → Prop where
  | nil : Its H [] .nil
  | set {p q : Addr} {x : PySem.Str} {e : Ex} {xs : List V} {t : Tr} (h : H p = some (.tup [.str "set", .str x, .ref q])) (he : H q = some (.tup e.vs)) (r : Its H xs t) : Its H (.ref p :: xs) (.set x e t)
  | tell {p : Addr} {x : PySem.Str} {xs : List V} {t : Tr} (h : H p = some (.tup [.str "tell", .str x])) (r : Its H xs t) : Its H (.ref p :: xs) (.tell x t)
  | ite {p q1 q2 : Addr} {x : PySem.Str} {as bs xs : List V} {a b t : Tr} (h : H p = some (.tup [.str "if", .str x, .ref q1, .ref q2])) (h1 : H q1 = some (.tup as)) (h2 : H q2 = some (.tup bs)) (ra : Its H as a) (rb : Its H bs b) (r : Its H xs t) : Its H (.ref p :: xs) (.ite x a b t)
  | rnd {p q : Addr} {n : Nat} {as xs : List V} {a t : Tr} (h : H p = some (.tup [.str "round", .int (n : Int), .ref q])) (h1 : H q = some (.tup as)) (ra : Its H as a) (r : Its H xs t) : Its H (.ref p :: xs) (.rnd n a t)
theorem Its.stay {D : Addr → Prop} {H H1 : Hp} {xs : List V} {t : Tr} (i : Its H xs t) (k : Kept D H H1) (n : ∀ p ys, H p = some (.tup ys) → ¬ D p) : Its H1 xs t := by
  induction i with
  | nil => exact .nil
  | set h he _ ih => exact .set (k.tup h (n _ _ h)) (k.tup he (n _ _ he)) ih
  | tell h _ ih => exact .tell (k.tup h (n _ _ h)) ih
  | ite h h1 h2 _ _ _ ia ib ih => exact .ite (k.tup h (n _ _ h)) (k.tup h1 (n _ _ h1)) (k.tup h2 (n _ _ h2)) ia ib ih
  | rnd h h1 _ _ ia ih => exact .rnd (k.tup h (n _ _ h)) (k.tup h1 (n _ _ h1)) ia ih
theorem Its.len {H : Hp} {xs : List V} {t : Tr} (i : Its H xs t) : xs.length = t.len := by
  induction i with
  | nil => rfl
  | set _ _ _ ih => rw [List.length_cons, ih, Tr.len, Nat.add_comm]
  | tell _ _ ih => rw [List.length_cons, ih, Tr.len, Nat.add_comm]
  | ite _ _ _ _ _ _ _ _ ih => rw [List.length_cons, ih, Tr.len, Nat.add_comm]
  | rnd _ _ _ _ _ ih => rw [List.length_cons, ih, Tr.len, Nat.add_comm]
theorem Tr.len_all : ∀ t : Tr, t.len ≤ t.all
  | .nil => Nat.le_refl _
  | .set _ _ t => Nat.add_le_add_left (len_all t) 1
  | .tell _ t => Nat.add_le_add_left (len_all t) 1
  | .ite _ a b t => by
    have := len_all t
    simp only [Tr.len, Tr.all]
    omega
  | .rnd _ a t => by
    have := len_all t
    simp only [Tr.len, Tr.all]
    omega
/-- one tree behind another -/
def Tr.app : Tr → Tr → Tr
  | .nil, u => u
  | .set x e t, u => .set x e (t.app u)
  | .tell x t, u => .tell x (t.app u)
  | .ite x a b t, u => .ite x a b (t.app u)
  | .rnd n a t, u => .rnd n a (t.app u)
theorem Its.app {H : Hp} {xs ys : List V} {t u : Tr} (i : Its H xs t) (j : Its H ys u) : Its H (xs ++ ys) (t.app u) := by
  induction i with
  | nil => exact j
  | set h he _ ih => exact .set h he ih
  | tell h _ ih => exact .tell h ih
  | ite h h1 h2 ra rb _ _ _ ih => exact .ite h h1 h2 ra rb ih
  | rnd h h1 ra _ _ ih => exact .rnd h h1 ra ih
theorem Tr.app_lines : ∀ t u : Tr, (t.app u).lines = t.lines ++ u.lines
  | .nil, _ => rfl
  | .set _ _ t, u => by simp only [Tr.app, Tr.lines, app_lines t u, List.cons_append]
  | .tell _ t, u => by simp only [Tr.app, Tr.lines, app_lines t u, List.cons_append]
  | .ite _ a b t, u => by simp only [Tr.app, Tr.lines, app_lines t u, List.cons_append, List.append_assoc]
  | .rnd _ a t, u => by simp only [Tr.app, Tr.lines, app_lines t u, List.cons_append, List.append_assoc]
theorem Tr.app_assoc : ∀ t u w : Tr, (t.app u).app w = t.app (u.app w)
  | .nil, _, _ => rfl
  | .set _ _ t, u, w => by simp only [Tr.app, app_assoc t u w]
  | .tell _ t, u, w => by simp only [Tr.app, app_assoc t u w]
  | .ite _ _ _ t, u, w => by simp only [Tr.app, app_assoc t u w]
  | .rnd _ _ t, u, w => by simp only [Tr.app, app_assoc t u w]
theorem Tr.app_all : ∀ t u : Tr, (t.app u).all = t.all + u.all
  | .nil, _ => (Nat.zero_add _).symm
  | .set _ _ t, u => by simp only [Tr.app, Tr.all, app_all t u]; omega
  | .tell _ t, u => by simp only [Tr.app, Tr.all, app_all t u]; omega
  | .ite _ _ _ t, u => by simp only [Tr.app, Tr.all, app_all t u]; omega
  | .rnd _ _ t, u => by simp only [Tr.app, Tr.all, app_all t u]; omega
end K9

set_option Elab.async false
set_option linter.all false
set_option maxRecDepth 100000
set_option maxHeartbeats 4000000
namespace K9
open PySem PySem.Spec PyProof.Rows L2
/-! ### figures read back -/
def decB (n : Nat) : Bool := numOk (dec n).cps.toList && (decide (numI (dec n).cps.toList = (n : Int)) && decide ((dec n).length ≤ 8))
theorem dec_all : (List.range 4096).all decB = true := by decide +kernel
theorem dec_num {n : Nat} (h : n < 4096) : numV (dec n).cps.toList = .int (n : Int) ∧ (dec n).length ≤ 8 := by
  have q := List.all_eq_true.mp dec_all n (List.mem_range.mpr h)
  unfold decB at q
  obtain ⟨q1, q2⟩ := Bool.and_eq_true_iff.mp q
  obtain ⟨q2, q3⟩ := Bool.and_eq_true_iff.mp q2
  refine ⟨?_, of_decide_eq_true q3⟩
  unfold numV
  rw [if_pos q1, of_decide_eq_true q2]
end K9

set_option Elab.async false
set_option linter.all false
set_option maxRecDepth 100000
set_option maxHeartbeats 4000000
namespace K9
open PySem PySem.Spec PyProof.Rows L2
/-! ### what stands while a text is read -/
structure Ad where
  (p dx A L N B : Addr)
/-- the bounds of a kind of number -/
inductive BK : Option Nat → PySem.Str → Nat → Nat → Prop
  | wide {v} : BK v "wide" 1 12
  | goings {v} : BK v "goings" 0 12
  | shift {v} : BK v "shift" 0 11
  | word {v : Nat} : BK (some v) "word" 0 (2 ^ v - 1)
structure Rd (C : Addr) (a : Ad) (ls : List (List PySem.Str)) (v : Option Nat) (k m b : Nat) (H : Hp) : Prop where
  o : H a.p = some (.ins C a.dx (fsT a.A a.L k m a.N a.B))
  l : ∃ ts : List Addr, H a.L = some (.lst (ts.map V.ref)) ∧ ts.length = ls.length ∧ ∀ (i : Nat) (t : Addr) (l : List PySem.Str), ts[i]? = some t → ls[i]? = some l → H t = some (.lst (l.map V.str))
  n : ∃ kvs : List (Key × V), H a.N = some (.dK kvs) ∧ (∀ q ∈ kvs, ∃ x, q.1 = Sum.inr x ∧ Nm x) ∧ kvs.length ≤ b
  bd : ∃ bvs : List (Key × V), H a.B = some (.dK bvs) ∧ ∀ kind lo hi, BK v kind lo hi → ∃ t, valV bvs (Sum.inr kind : Key) = some (.ref t) ∧ H t = some (.tup [.int (lo : Int), .int (hi : Int)])
  nb : a.N ≠ a.B
abbrev At3 (a : Ad) : Addr → Prop := fun b => b = a.p ∨ b = a.N
theorem Rd.stay {C : Addr} {a : Ad} {ls : List (List PySem.Str)} {v : Option Nat} {k m b : Nat} {H H' : Hp} (r : Rd C a ls v k m b H) (kp : Kept None H H') : Rd C a ls v k m b H' := by
  obtain ⟨o, ⟨ts, l1, l2, l3⟩, ⟨kvs, n1, n2, n3⟩, ⟨bvs, b1, b2⟩, nb⟩ := r
  refine ⟨kp a.p _ o (fun z => z), ⟨ts, kp.lst l1 (fun z => z), l2, fun i t l h1 h2 => kp.lst (l3 i t l h1 h2) fun z => z⟩, ⟨kvs, kp.dK n1 (fun z => z), n2, n3⟩, ⟨bvs, kp.dK b1 (fun z => z), fun kind lo hi h => ?_⟩, nb⟩
  obtain ⟨t, t1, t2⟩ := b2 kind lo hi h
  exact ⟨t, t1, kp.tup t2 fun z => z⟩
theorem Rd.more {C : Addr} {a : Ad} {ls : List (List PySem.Str)} {v : Option Nat} {k m b b' : Nat} {H : Hp} (r : Rd C a ls v k m b H) (h : b ≤ b') : Rd C a ls v k m b' H :=
  ⟨r.o, r.l, by obtain ⟨kvs, n1, n2, n3⟩ := r.n; exact ⟨kvs, n1, n2, by omega⟩, r.bd, r.nb⟩
/-- the object's numbers otherwise -/
theorem Rd.set {C : Addr} {a : Ad} {ls : List (List PySem.Str)} {v : Option Nat} {k m b k' m' : Nat} {H : Hp} (r : Rd C a ls v k m b H) : Rd C a ls v k' m' b (upd H a.p (.ins C a.dx (fsT a.A a.L k' m' a.N a.B))) := by
  obtain ⟨o, ⟨ts, l1, l2, l3⟩, ⟨kvs, n1, n2, n3⟩, ⟨bvs, b1, b2⟩, nb⟩ := r
  have ne : ∀ {q : Addr} {u : HO}, H q = some u → (∀ C dx fs, u ≠ .ins C dx fs) → q ≠ a.p := fun {q u} e h z => by
    rw [z, o] at e
    exact h _ _ _ (Option.some.inj e).symm
  refine ⟨upd_same, ⟨ts, by rw [upd_ne (ne l1 (fun _ _ _ z => by cases z))]; exact l1, l2, fun i t l h1 h2 => by rw [upd_ne (ne (l3 i t l h1 h2) (fun _ _ _ z => by cases z))]; exact l3 i t l h1 h2⟩, ⟨kvs, by rw [upd_ne (ne n1 (fun _ _ _ z => by cases z))]; exact n1, n2, n3⟩, ⟨bvs, by rw [upd_ne (ne b1 (fun _ _ _ z => by cases z))]; exact b1, fun kind lo hi h => ?_⟩, nb⟩
  obtain ⟨t, t1, t2⟩ := b2 kind lo hi h
  exact ⟨t, t1, by rw [upd_ne (ne t2 (fun _ _ _ z => by cases z))]; exact t2⟩
/-- one more known name -/
theorem Rd.name {C : Addr} {a : Ad} {ls : List (List PySem.Str)} {v : Option Nat} {k m b : Nat} {H : Hp} (r : Rd C a ls v k m b H) {x : PySem.Str} (hx : Nm x) {kvs : List (Key × V)} (e : H a.N = some (.dK kvs)) (hk : ∀ q ∈ kvs, ∃ x, q.1 = Sum.inr x ∧ Nm x) (lk : kvs.length ≤ b) :
    Rd C a ls v k m (b + 1) (upd H a.N (.dK (putK kvs (Sum.inr x) (.bl true)))) := by
  obtain ⟨o, ⟨ts, l1, l2, l3⟩, _, ⟨bvs, b1, b2⟩, nb⟩ := r
  have ne : ∀ {q : Addr} {u : HO}, H q = some u → (∀ kvs, u ≠ .dK kvs) → q ≠ a.N := fun {q u} e2 h z => by
    rw [z, e] at e2
    exact h _ (Option.some.inj e2).symm
  refine ⟨by rw [upd_ne (ne o (fun _ z => by cases z))]; exact o, ⟨ts, by rw [upd_ne (ne l1 (fun _ z => by cases z))]; exact l1, l2, fun i t l h1 h2 => by rw [upd_ne (ne (l3 i t l h1 h2) (fun _ z => by cases z))]; exact l3 i t l h1 h2⟩, ⟨_, upd_same, ?_, ?_⟩, ⟨bvs, by rw [upd_ne (Ne.symm nb)]; exact b1, fun kind lo hi h => ?_⟩, nb⟩
  · intro q hq
    unfold putK at hq
    split at hq
    · obtain ⟨q', hq', rfl⟩ := List.mem_map.mp hq
      split
      · exact hk q' hq'
      · exact hk q' hq'
    · rcases List.mem_append.mp hq with h | h
      · exact hk q h
      · rw [List.mem_singleton.mp h]; exact ⟨x, rfl, hx⟩
  · unfold putK
    split
    · rw [List.length_map]; omega
    · rw [List.length_append]; exact Nat.succ_le_succ lk
  · obtain ⟨t, t1, t2⟩ := b2 kind lo hi h
    exact ⟨t, t1, by rw [upd_ne (ne t2 (fun _ z => by cases z))]; exact t2⟩
end K9

set_option Elab.async false
set_option linter.all false
set_option maxRecDepth 100000
set_option maxHeartbeats 4000000
namespace K9
open PySem PySem.Spec PyProof.Rows L2
/-! ### numbers, names, lines -/
abbrev sNumberOf : Stmt := inClass (top 30) 11
theorem scNumberOf : FnScope ["self", "word", "kind", "number", "least", "most"] ["self", "word", "kind"] (defScope sNumberOf) := ⟨rfl, rfl, rfl, by decide +kernel, rfl, by decide +kernel, by decide +kernel⟩
abbrev sAreNames : Stmt := inClass (top 30) 12
theorem scAreNames : FnScope ["self", "words", "known", "word"] ["self", "words"] (defScope sAreNames) := ⟨rfl, rfl, rfl, by decide +kernel, rfl, by decide +kernel, by decide +kernel⟩
def spNumOf (C : Addr) : Sp := fun vs H Q _ => ∃ (a : Ad) (ls : List (List PySem.Str)) (v : Option Nat) (k m b n lo hi : Nat) (kind : PySem.Str), vs = [.ref a.p, .str (dec n), .str kind] ∧ n < 4096 ∧ Rd C a ls v k m b H ∧ BK v kind lo hi ∧ lo ≤ n ∧ n ≤ hi ∧ ∀ H', Kept None H H' → Q (.int (n : Int)) H'
def spAre (C : Addr) : Sp := fun vs H Q _ => ∃ (a : Ad) (ls : List (List PySem.Str)) (v : Option Nat) (k m b : Nat) (W : Addr) (ws : List PySem.Str), vs = [.ref a.p, .ref W] ∧ H W = some (.lst (ws.map V.str)) ∧ (∀ x ∈ ws, Nm x) ∧ ws.length ≤ 10 ∧ Rd C a ls v k m b H ∧ b ≤ 5000 ∧ ∀ H', Kept (At3 a) H H' → Rd C a ls v k m (b + ws.length) H' → Q (.bl true) H'
theorem Nm.len {x : PySem.Str} (h : Nm x) : x.length ≤ 8 := by
  unfold Nm nameB at h
  dsimp only at h
  obtain ⟨h, _⟩ := Bool.and_eq_true_iff.mp h
  exact of_decide_eq_true (Bool.and_eq_true_iff.mp h).2
section
variable {P : Program} {w : World} {K : PySem.W.Frag} {mg : PySem.Str → Option Value} {base : Heap} {f fN C : Addr} {fd fdN : FuncData}
theorem ok_numof (F : FnM K "number_of" "Text.number_of" sNumberOf f fd) (T : TxC K mg C) (GN : FnOk P w K mg base CX0 3 fN fdN ["word"] spNum) (bN : Binds K fdN ["word"] []) (kN : PySem.W.keepIn K (.ref fN) = true) (gN : mg "number_in" = some (.ref fN)) : FnOk P w K mg base CX0 4 f fd ["self", "word", "kind"] (spNumOf C) := by
  refine F.ok (k := 3) scNumberOf (fun vs H Q E h => ?_) (fun cdv A outer s H vs Q E hr h => ?_)
  · obtain ⟨a, ls, v, k, m, b, n, lo, hi, kind, rfl, _⟩ := h
    rfl
  · obtain ⟨a, ls, v, k, m, b, n, lo, hi, kind, rfl, hn, r, bk, h1, h2, q⟩ := h
    have hu := hu_of hr
    refine ⟨_, PSs.nox (pss_cons (ps_set (i := 3) scNumberOf.nd rfl (Or.inl rfl) (pe_call GN hr (by rfl) gN kN bN .nil pass0 (pa_cons (pv 1) pa_nil)))
    (pss_cons (ps_asg (pe_dget hu (pe_fld (pv 0) rfl) (pv 2) (fun _ _ => rfl)) (pg_tup rfl (pgs_cons (pg_name (i := 4) scNumberOf.nd rfl (Or.inl rfl)) (pgs_cons (pg_name (i := 5) scNumberOf.nd rfl (Or.inl rfl)) pgs_nil))))
    (pss_one (ps_ret (pe_ifExp (PW.pt (pw_and (pt_cmpR op_notN (pv 3) pe_non (nomark _)) (pw_and1 (pt_chain op_le op_le (pv 4) (pv 3) (pv 5))))) (pv 3) pe_non))))), ?_⟩
    obtain ⟨d1, d2⟩ := dec_num hn
    refine ⟨.str (dec n), rfl, dec n, rfl, by rw [sizeLine_eq]; omega, fun H1 k1 => ?_⟩
    rw [d1]
    have r1 := r.stay k1
    obtain ⟨bvs, b1, b2⟩ := r1.bd
    obtain ⟨t, t1, t2⟩ := b2 kind lo hi bk
    have dg := DGet.k (k := (Sum.inr kind : Key)) b1
    rw [t1] at dg
    refine ⟨.ref a.p, rfl, a.p, C, a.dx, _, _, rfl, r1.o, T.cl, T.nB, f_B, .str kind, rfl, a.B, .ref t, rfl, dg, ?_⟩
    refine ⟨t, _, rfl, SqT.of t2, rfl, .int (lo : Int), [.int (hi : Int)], rfl, .int (hi : Int), [], rfl, rfl, ?_⟩
    refine ⟨.int (n : Int), rfl, rfl, _, rfl, iteT ?_⟩
    refine ⟨.int (lo : Int), rfl, .int (n : Int), rfl, lo, n, rfl, rfl, _, rfl, ?_⟩
    rw [decide_eq_true (show (lo : Int) ≤ (n : Int) by omega)]
    refine iteT ⟨.int (hi : Int), rfl, n, hi, rfl, rfl, _, rfl, ?_⟩
    rw [decide_eq_true (show (n : Int) ≤ (hi : Int) by omega)]
    exact iteT ⟨.int (n : Int), rfl, q H1 k1⟩
theorem ok_are (F : FnM K "are_names" "Text.are_names" sAreNames f fd) (T : TxC K mg C) (GN : FnOk P w K mg base CX0 2 fN fdN ["thing"] (spName K)) (bN : Binds K fdN ["thing"] []) (kN : PySem.W.keepIn K (.ref fN) = true) (gN : mg "is_name" = some (.ref fN)) : FnOk P w K mg base CX0 3 f fd ["self", "words"] (spAre C) := by
  refine F.ok (k := 2) scAreNames (fun vs H Q E h => ?_) (fun cdv A outer s H vs Q E hr h => ?_)
  · obtain ⟨a, ls, v, k, m, b, W, ws, rfl, _⟩ := h
    rfl
  · obtain ⟨a, ls, v, k, m, b, W, ws, rfl, hW, nm, few, r, hb, q⟩ := h
    have hu := hu_of hr
    refine ⟨_, PSs.nox (pss_cons (ps_set (i := 2) scAreNames.nd rfl (Or.inl rfl) (pe_fld (pv 0) rfl))
    (pss_cons (ps_for PassesOwn.never rfl (pi_list (pv 1)) (pg_name (i := 3) scAreNames.nd rfl (Or.inl rfl))
      (pss_one (ps_if (pt_cmp (pc_dnotin hu (pv 3) (pv 2)))
        (pss_cons (ps_if (pt_not (pt_val (pe_call GN hr (by rfl) gN kN bN .nil pass0 (pa_cons (pv 3) pa_nil))))
          (pss_one (ps_ret pe_bl))
          pss_nil)
        (pss_one (ps_dput hu (pv 2) (pv 3) pe_bl rfl)))
        pss_nil)))
    (pss_one (ps_ret pe_bl)))), ?_⟩
    have hWp : W ≠ a.p := fun z => by rw [z, r.o] at hW; cases hW
    have hWN : W ≠ a.N := fun z => by
      obtain ⟨_, n1, _⟩ := r.n
      rw [z, n1] at hW; cases hW
    refine ⟨.ref a.p, rfl, a.p, C, a.dx, _, _, rfl, r.o, T.cl, T.nN, f_N, ?_⟩
    refine ⟨.ref W, rfl, W, rfl, ⟨_, SqL.of hW⟩, ?_⟩
    refine for_list (K := K) (a := W) (xs := ws.map V.str) (fun i σ H' => ∃ x3, σ = [some (.ref a.p), some (.ref W), some (.ref a.N), x3] ∧ Kept (At3 a) H H' ∧ Rd C a ls v k m (b + i) H') ⟨none, rfl, Kept.refl, r⟩ (fun i σ H' _ h => ?_) (fun i x σ H' hx h => ?_) (fun σ H' h => ?_)
    · obtain ⟨_, _, k1, _⟩ := h
      exact SqL.of (k1.lst hW fun z => z.elim hWp hWN)
    · obtain ⟨x3, rfl, k1, r1⟩ := h
      rw [List.getElem?_map] at hx
      obtain ⟨z, hz, rfl⟩ := Option.map_eq_some_iff.mp hx
      have nz := nm z (List.mem_of_getElem? hz)
      have hi : i < ws.length := (List.getElem?_eq_some_iff.mp hz).1
      obtain ⟨kvs, n1, n2, n3⟩ := r1.n
      refine ⟨.str z, rfl, .ref a.N, rfl, a.N, _, rfl, DGet.k (k := (Sum.inr z : Key)) n1, _, rfl, ?_⟩
      have kN0 : Kept (At3 a) H' (upd H' a.N (.dK (putK kvs (Sum.inr z) (.bl true)))) := Kept.refl.upd (.inr rfl)
      cases hv : valV kvs (Sum.inr z : Key) with
      | some u => exact iteF ⟨_, rfl, k1, r1.more (by omega)⟩
      | none =>
        refine iteT ⟨.str z, rfl, .str z, "str", rfl, .str z, fun z' e => by cases e; rw [sizeLine_eq]; have := nz.len; omega, fun H2 k2 => ⟨_, rfl, ?_⟩⟩
        rw [show nameB (.str z) = true from nz]
        have r2 := r1.stay k2
        have n1' := k2.dK n1 fun z => z
        have k3 : Kept (At3 a) H H2 := k1.trans (k2.weak fun _ z => z.elim)
        refine iteF ⟨.ref a.N, rfl, .str z, rfl, a.N, _, rfl, DPut.k (k := (Sum.inr z : Key)) n1' (by rw [sizeLine_eq]; omega), ?_⟩
        exact ⟨_, rfl, k3.upd (.inr rfl), r2.name nz n1' n2 n3⟩
    · obtain ⟨x3, rfl, k1, r1⟩ := h
      rw [List.length_map] at r1
      exact q H' k1 r1
end
end K9

set_option Elab.async false
set_option linter.all false
set_option maxRecDepth 100000
set_option maxHeartbeats 4000000
namespace K9
open PySem PySem.Spec PyProof.Rows L2
abbrev sTakeLineOf : Stmt := inClass (top 30) 7
theorem scTakeLineOf : FnScope ["self", "word", "words"] ["self", "word"] (defScope sTakeLineOf) := ⟨rfl, rfl, rfl, by decide +kernel, rfl, by decide +kernel, by decide +kernel⟩
abbrev sTakeClosing : Stmt := inClass (top 30) 8
theorem scTakeClosing : FnScope ["self", "word"] ["self", "word"] (defScope sTakeClosing) := ⟨rfl, rfl, rfl, by decide +kernel, rfl, by decide +kernel, by decide +kernel⟩
abbrev sNameBehind : Stmt := inClass (top 30) 9
theorem scNameBehind : FnScope ["self", "words"] ["self", "words"] (defScope sNameBehind) := ⟨rfl, rfl, rfl, by decide +kernel, rfl, by decide +kernel, by decide +kernel⟩
abbrev sNumberBehind : Stmt := inClass (top 30) 10
theorem scNumberBehind : FnScope ["self", "words", "kind", "number"] ["self", "words", "kind"] (defScope sNumberBehind) := ⟨rfl, rfl, rfl, by decide +kernel, rfl, by decide +kernel, by decide +kernel⟩
def spTake (C : Addr) : Sp := fun vs H Q _ => ∃ (a : Ad) (ls : List (List PySem.Str)) (v : Option Nat) (k m b : Nat) (w0 : PySem.Str) (rest : List PySem.Str), vs = [.ref a.p, .str w0] ∧ Rd C a ls v k m b H ∧ ls[k]? = some (w0 :: rest) ∧
  ∀ (W : Addr) H', Kept (At3 a) H H' → Rd C a ls v (k + 1) m b H' → H' W = some (.lst ((w0 :: rest).map V.str)) → Q (.ref W) H'
def spClose (C : Addr) : Sp := fun vs H Q _ => ∃ (a : Ad) (ls : List (List PySem.Str)) (v : Option Nat) (k m b : Nat) (w0 : PySem.Str), vs = [.ref a.p, .str w0] ∧ Rd C a ls v k m b H ∧ ls[k]? = some [w0] ∧ ∀ H', Kept (At3 a) H H' → Rd C a ls v (k + 1) m b H' → Q .non H'
def spNameB (C : Addr) : Sp := fun vs H Q _ => ∃ (a : Ad) (ls : List (List PySem.Str)) (v : Option Nat) (k m b : Nat) (W : Addr) (w0 x : PySem.Str), vs = [.ref a.p, .ref W] ∧ H W = some (.lst [.str w0, .str x]) ∧ Nm w0 ∧ Nm x ∧ Rd C a ls v k m b H ∧ b ≤ 5000 ∧ ∀ H', Kept (At3 a) H H' → Rd C a ls v k m (b + 2) H' → Q (.str x) H'
def spNumB (C : Addr) : Sp := fun vs H Q _ => ∃ (a : Ad) (ls : List (List PySem.Str)) (v : Option Nat) (k m b n lo hi : Nat) (W : Addr) (w0 kind : PySem.Str), vs = [.ref a.p, .ref W, .str kind] ∧ H W = some (.lst [.str w0, .str (dec n)]) ∧ n < 4096 ∧ Rd C a ls v k m b H ∧ BK v kind lo hi ∧ lo ≤ n ∧ n ≤ hi ∧ ∀ H', Kept None H H' → Q (.int (n : Int)) H'
section
variable {P : Program} {w : World} {K : PySem.W.Frag} {mg : PySem.Str → Option Value} {base : Heap} {f fA fN fT C : Addr} {fd fdA fdN fdT : FuncData}
theorem ok_nameb (F : FnM K "name_behind" "Text.name_behind" sNameBehind f fd) (T : TxC K mg C) (mA : Meth K C "are_names" fA) (GA : FnOk P w K mg base CX0 3 fA fdA ["self", "words"] (spAre C)) (bA : Binds K fdA ["self", "words"] []) (m_len : mg "len" = none) : FnOk P w K mg base CX0 4 f fd ["self", "words"] (spNameB C) := by
  refine F.ok (k := 3) scNameBehind (fun vs H Q E h => ?_) (fun cdv A outer s H vs Q E hr h => ?_)
  · obtain ⟨a, ls, v, k, m, b, W, w0, x, rfl, _⟩ := h
    rfl
  · obtain ⟨a, ls, v, k, m, b, W, w0, x, rfl, hW, n0, n1, r, hb, q⟩ := h
    refine ⟨_, PSs.nox (pss_cons (ps_if (PW.pt (pw_or (pt_cmpR op_ne (pe_callB call_len_seq (by rfl) m_len PySem.boot_len (pa_cons (pv 1) pa_nil)) pe_int (nomark _)) (pw_or1 (pt_not (pt_val (pe_meth (pv 0) T.cl mA GA hr bA .nil pass0 (pa_cons (pv 1) pa_nil)))))))
      (pss_one ps_never)
      pss_nil)
    (pss_one (ps_ret (pe_ix ix_list (pv 1) pe_int (fun _ _ => rfl))))), ?_⟩
    have hWp : W ≠ a.p := fun z => by rw [z, r.o] at hW; cases hW
    have hWN : W ≠ a.N := fun z => by
      obtain ⟨_, n1, _⟩ := r.n
      rw [z, n1] at hW; cases hW
    refine ⟨.ref W, rfl, W, _, rfl, .inl (SqL.of hW), rfl, _, rfl, iteF ?_⟩
    refine ⟨.ref a.p, rfl, a.p, a.dx, _, rfl, r.o, rfl, .ref W, rfl, a, ls, v, k, m, b, W, [w0, x], rfl, hW, ?_, (show 2 ≤ 10 by decide), r, hb, fun H1 k1 r1 => ⟨_, rfl, iteF ?_⟩⟩
    · intro y hy
      simp only [List.mem_cons, List.not_mem_nil, or_false] at hy
      rcases hy with rfl | rfl
      · exact n0
      · exact n1
    exact ⟨.ref W, rfl, W, _, 1, .str x, rfl, rfl, SqL.of (k1.lst hW fun z => z.elim hWp hWN), atI_nat (j := 1) rfl, q H1 k1 r1⟩
theorem ok_numb (F : FnM K "number_behind" "Text.number_behind" sNumberBehind f fd) (T : TxC K mg C) (mN : Meth K C "number_of" fN) (GN : FnOk P w K mg base CX0 4 fN fdN ["self", "word", "kind"] (spNumOf C)) (bN : Binds K fdN ["self", "word", "kind"] []) (m_len : mg "len" = none) : FnOk P w K mg base CX0 5 f fd ["self", "words", "kind"] (spNumB C) := by
  refine F.ok (k := 4) scNumberBehind (fun vs H Q E h => ?_) (fun cdv A outer s H vs Q E hr h => ?_)
  · obtain ⟨a, ls, v, k, m, b, n, lo, hi, W, w0, kind, rfl, _⟩ := h
    rfl
  · obtain ⟨a, ls, v, k, m, b, n, lo, hi, W, w0, kind, rfl, hW, hn, r, bk, h1, h2, q⟩ := h
    refine ⟨_, PSs.nox (pss_cons (ps_set (i := 3) scNumberBehind.nd rfl (Or.inl rfl) (pe_ifExp (pt_cmpR op_eq (pe_callB call_len_seq (by rfl) m_len PySem.boot_len (pa_cons (pv 1) pa_nil)) pe_int (nomark _)) (pe_meth (pv 0) T.cl mN GN hr bN .nil pass0 (pa_cons (pe_ix ix_list (pv 1) pe_int (fun _ _ => rfl)) (pa_cons (pv 2) pa_nil))) pe_non))
    (pss_cons (ps_if (pt_cmpR op_isN (pv 3) pe_non (nomark _))
      (pss_one ps_never)
      pss_nil)
    (pss_one (ps_ret (pv 3))))), ?_⟩
    refine ⟨.ref W, rfl, W, _, rfl, .inl (SqL.of hW), rfl, _, rfl, iteT ?_⟩
    refine ⟨.ref a.p, rfl, a.p, a.dx, _, rfl, r.o, rfl, .ref W, rfl, W, _, 1, .str (dec n), rfl, rfl, SqL.of hW, atI_nat (j := 1) rfl, .str kind, rfl, a, ls, v, k, m, b, n, lo, hi, kind, rfl, hn, r, bk, h1, h2, fun H1 k1 => ?_⟩
    refine ⟨.int (n : Int), rfl, rfl, _, rfl, iteF ?_⟩
    exact ⟨.int (n : Int), rfl, q H1 k1⟩
theorem ok_take (F : FnM K "take_line_of" "Text.take_line_of" sTakeLineOf f fd) (T : TxC K mg C) (m_len : mg "len" = none) : FnOk P w K mg base CX0 1 f fd ["self", "word"] (spTake C) := by
  refine F.ok (k := 0) scTakeLineOf (fun vs H Q E h => ?_) (fun cdv A outer s H vs Q E hr h => ?_)
  · obtain ⟨a, ls, v, k, m, b, w0, rest, rfl, _⟩ := h
    rfl
  · obtain ⟨a, ls, v, k, m, b, w0, rest, rfl, r, hl, q⟩ := h
    refine ⟨_, PSs.nox (pss_cons (ps_if (pt_cmpR op_eq (pe_fld (pv 0) rfl) (pe_callB call_len_seq (by rfl) m_len PySem.boot_len (pa_cons (pe_fld (pv 0) rfl) pa_nil)) (nomark _))
      (pss_one ps_never)
      pss_nil)
    (pss_cons (ps_fldaug (pv 0) pe_int in_add)
    (pss_cons (ps_set (i := 2) scTakeLineOf.nd rfl (Or.inl rfl) (pe_ix ix_list (pe_fld (pv 0) rfl) (pe_op op_sub (pe_fld (pv 0) rfl) pe_int) (fun _ _ => rfl)))
    (pss_cons (ps_if (pt_cmpR op_ne (pe_ix ix_list (pv 2) pe_int (fun _ _ => rfl)) (pv 1) (nomark _))
      (pss_one ps_never)
      pss_nil)
    (pss_one (ps_ret (pv 2))))))), ?_⟩
    obtain ⟨ts, l1, l2, l3⟩ := r.l
    have hk : k < ls.length := (List.getElem?_eq_some_iff.mp hl).1
    refine ⟨.ref a.p, rfl, a.p, C, a.dx, _, _, rfl, r.o, T.cl, T.nT, f_T, .ref a.p, rfl, a.p, C, a.dx, _, _, rfl, r.o, T.cl, T.nL, f_L, a.L, _, rfl, .inl (SqL.of l1), rfl, _, rfl, ite2 (fun z => ?_) (fun _ => ?_)⟩
    · exfalso
      have z2 := V.int.inj (of_decide_eq_true z)
      rw [List.length_map, l2] at z2
      omega
    refine ⟨.ref a.p, rfl, a.p, C, a.dx, _, _, rfl, r.o, T.cl, T.nT, f_T, (k : Int), 1, rfl, rfl, a.dx, _, r.o, (by show 6 < 1000; decide), ?_⟩
    have r1 := r.set (k' := k + 1) (m' := m)
    have k1 : Kept (At3 a) H (upd H a.p (.ins C a.dx (fsT a.A a.L (k + 1) m a.N a.B))) := Kept.refl.upd (.inl rfl)
    have e1 : putF "taken" (.int ((k : Int) + 1)) (fsT a.A a.L k m a.N a.B) = fsT a.A a.L (k + 1) m a.N a.B := p_T (k' := k + 1)
    rw [e1]
    generalize upd H a.p (.ins C a.dx (fsT a.A a.L (k + 1) m a.N a.B)) = H1 at r1 k1 ⊢
    obtain ⟨ts, l1, l2, l3⟩ := r1.l
    have ht := List.getElem?_eq_getElem (l := ts) (i := k) (by omega)
    have eW := l3 k _ _ ht hl
    refine ⟨.ref a.p, rfl, a.p, C, a.dx, _, _, rfl, r1.o, T.cl, T.nL, f_L, .ref a.p, rfl, a.p, C, a.dx, _, _, rfl, r1.o, T.cl, T.nT, f_T, ((k + 1 : Nat) : Int), 1, rfl, rfl, a.L, _, ((k + 1 : Nat) : Int) - 1, .ref ts[k], rfl, rfl, SqL.of l1, ?_, ?_⟩
    · rw [show ((k + 1 : Nat) : Int) - 1 = (k : Int) by omega]
      exact atI_nat (j := k) (by rw [List.getElem?_map, ht]; rfl)
    refine ⟨.ref ts[k], rfl, ts[k], _, 0, .str w0, rfl, rfl, SqL.of eW, atI_nat (j := 0) rfl, .str w0, rfl, rfl, _, rfl, ?_⟩
    rw [decide_eq_true rfl]
    exact iteF ⟨.ref ts[k], rfl, q _ H1 k1 r1 eW⟩
theorem ok_close (F : FnM K "take_closing" "Text.take_closing" sTakeClosing f fd) (T : TxC K mg C) (mT : Meth K C "take_line_of" fT) (GT : FnOk P w K mg base CX0 1 fT fdT ["self", "word"] (spTake C)) (bT : Binds K fdT ["self", "word"] []) (m_len : mg "len" = none) : FnOk P w K mg base CX0 2 f fd ["self", "word"] (spClose C) := by
  refine F.ok (k := 1) scTakeClosing (fun vs H Q E h => ?_) (fun cdv A outer s H vs Q E hr h => ?_)
  · obtain ⟨a, ls, v, k, m, b, w0, rfl, _⟩ := h
    rfl
  · obtain ⟨a, ls, v, k, m, b, w0, rfl, r, hl, q⟩ := h
    refine ⟨_, PSs.nox (pss_one (ps_if (pt_cmpR op_gt (pe_callB call_len_seq (by rfl) m_len PySem.boot_len (pa_cons (pe_meth (pv 0) T.cl mT GT hr bT .nil pass0 (pa_cons (pv 1) pa_nil)) pa_nil)) pe_int (nomark _))
      (pss_one ps_never)
      pss_nil)), ?_⟩
    refine ⟨.ref a.p, rfl, a.p, a.dx, _, rfl, r.o, rfl, .str w0, rfl, a, ls, v, k, m, b, w0, [], rfl, r, hl, fun W H1 k1 r1 eW => ?_⟩
    exact ⟨W, _, rfl, .inl (SqL.of eW), _, 1, rfl, rfl, _, rfl, iteF (q H1 k1 r1)⟩
end
end K9

set_option Elab.async false
set_option linter.all false
set_option maxRecDepth 100000
set_option maxHeartbeats 4000000
namespace K9
open PySem PySem.Spec PyProof.Rows L2
/-! ### d.get(key, other) of a dict of the module, the key there -/
def tKGet2 (K : PySem.W.Frag) (w : World) (td ty tx : TE) : TE := fun σ H Q => td σ H fun x H1 => ∃ a, x = .ref a ∧ (∃ es n, KDict K w a es n) ∧ ty σ H1 fun y H2 => ∃ z : PySem.Str, y = .str z ∧ tx σ H2 fun _ H3 => ∃ (u0 : Value) (v0 : V), PySem.W.nsIn K a z = some (some u0) ∧ RelV v0 u0 ∧ Q v0 H3
section
variable {X : Cx} {o e f : Expr} {apos cpos : Pos} {td ty tx : TE}
theorem pe_kget2 (ho : PE X o td) (he : PE X e ty) (hf : PE X f tx) (m : M2 X o "get" apos e f cpos) : PE X (.Call (.Attribute o "get" apos) [e, f] [] cpos) (tKGet2 X.K X.w td ty tx) := by
  refine ⟨fun pins s σ H Q I h => ?_⟩
  refine wpAny_Call_method m.base m.few m.line PySem.F.plainAttrs_dict PySem.F.slot_dict_get PySem.F.type_dict_get (thn (ho.run pins s σ H _ I h) fun u s1 ⟨x, H1, I1, rx, a, ex, ⟨es, n, D⟩, q1⟩ => ?_)
  subst ex
  obtain rfl : u = Value.ref a := rx
  refine ⟨kd_type D I1, fun b q => ?_, ?_⟩
  · cases q
    exact ⟨_, I1.kIn _ _ D.at_, rfl⟩
  rw [m.trees]
  refine Calls.callWith_builtin rfl (Calls.evalArgs_plain (Calls.spliced_cons (thn (he.run pins s1 σ H1 _ I1 q1) fun iv s2 ⟨y, H2, I2, ry, z, ey, q2⟩ =>
    Calls.spliced_cons (thn (hf.run pins s2 σ H2 _ I2 q2) fun fv s3 ⟨y3, H3, I3, rz, u0, v0, e0, r0, q3⟩ => Calls.spliced_nil ?_))))
  subst ey
  obtain ⟨t, rfl⟩ := ry
  refine call_meetsIn PySem.F.slot_dict_get (kd_type D I3) PySem.F.entry_dict_get (PySem.F.args_dict_get_3 _ _ _) (meets_dict_get_default (PySem.strKind X.prog X.w) a (PySem.strKind_is X.prog X.w z t) D.low fv) ⟨_, PySem.W.mapOf_K (prog := X.prog) I3.kIn D.at_ D.lit, ?_⟩
  rw [PySem.W.find_K D.at_ e0]
  exact ⟨v0, H3, I3.tok _, r0, q3⟩
end
/-! ### the module's tuples -/
def kinds : Ex → List PySem.Str
  | .num _ => ["word"]
  | .copy _ => ["name"]
  | .two _ _ _ => ["name", "name"]
  | .up _ _ => ["name", "shift"]
  | .down _ _ => ["name", "shift"]
  | .pick _ _ _ => ["name", "name", "name"]
structure Tab (K : PySem.W.Frag) (w : World) (mg : PySem.Str → Option Value) (D CW : Addr) : Prop where
  d : ∃ es n, KDict K w D es n
  mD : mg "EXPR_PARTS" = some (.ref D)
  k : ∀ e : Ex, ∃ p, PySem.W.nsIn K D e.word = some (some (.ref p)) ∧ ∀ H, SqT K H p ((kinds e).map V.str)
  mC : mg "CLOSING_WORDS" = some (.ref CW)
  c : ∀ H, SqT K H CW [.str "else", .str "end"]
end K9

set_option Elab.async false
set_option linter.all false
set_option maxRecDepth 100000
set_option maxHeartbeats 4000000
namespace K9
open PySem PySem.Spec PyProof.Rows L2
/-! ### figures hold no space -/
def decP (n : Nat) : Bool := (dec n).cps.toList.all (fun c => Nat.ble 48 c) && !(dec n).cps.toList.isEmpty
theorem decP_all : (List.range 4096).all decP = true := by decide +kernel
theorem dec_plain {n : Nat} (h : n < 4096) : (dec n).cps.toList ≠ [] ∧ ∀ c ∈ (dec n).cps.toList, 48 ≤ c := by
  have q := List.all_eq_true.mp decP_all n (List.mem_range.mpr h)
  unfold decP at q
  obtain ⟨q1, q2⟩ := Bool.and_eq_true_iff.mp q
  refine ⟨fun e => (by rw [e] at q2; cases q2), fun c hc => Nat.le_of_ble_eq_true (List.all_eq_true.mp q1 c hc)⟩
end K9

set_option Elab.async false
set_option linter.all false
set_option maxRecDepth 100000
set_option maxHeartbeats 4000000
namespace K9
open PySem PySem.Spec PyProof.Rows L2
/-! ### what may stand in a line, word by word -/
inductive So where
  | name | expr | num (lo hi : Nat)
/-- the number that a word writes, where it lies within bounds -/
def numW (lo hi : Nat) (z : PySem.Str) : Option Nat := match numV z.cps.toList with
  | .int i => if (lo : Int) ≤ i ∧ i ≤ (hi : Int) then some i.toNat else none
  | _ => none
def exprWords : List PySem.Str := ["number", "copy", "add", "less", "and", "or", "unlike", "same", "below", "up", "down", "pick"]
def exprB (z : PySem.Str) : Bool := decide (z ∈ exprWords)
def So.fits : So → PySem.Str → Bool
  | .name, z => nameB (.str z)
  | .expr, z => exprB z
  | .num lo hi, z => (numW lo hi z).isSome
/-- the place of the first word that can't stand there, 0 without one; i: the place of the next word -/
def badAt : List So → List PySem.Str → Nat → Nat
  | [], [], _ => 0
  | [], _ :: _, i => i
  | _ :: _, [], i => i
  | k :: ks, z :: zs, i => if k.fits z then badAt ks zs (i + 1) else i
/-- the sorts of the words behind an expression's own -/
def exS (v : Nat) (z : PySem.Str) : List So :=
  if z = "number" then [.num 0 (2 ^ v - 1)] else if z = "copy" then [.name] else if z = "up" then [.name, .num 0 11] else if z = "down" then [.name, .num 0 11] else if z = "pick" then [.name, .name, .name] else [.name, .name]
def setS (v : Nat) (r : List PySem.Str) : List So := .name :: .expr :: exS v (r.getD 1 "")
inductive Bk where
  | ifk | els | rnd
  deriving DecidableEq
def rnds (S : List Bk) : Nat := S.count .rnd
def fin {α : Type} (b : Nat) (x : α) : Sum Nat α := if b = 0 then .inr x else .inl b
def stElse : List Bk → Nat → List PySem.Str → Sum Nat (List Bk × Nat)
  | .ifk :: S', m, r => fin (badAt [] r 2) (.els :: S', m)
  | _, _, _ => .inl 1
def stEnd : List Bk → Nat → List PySem.Str → Sum Nat (List Bk × Nat)
  | .els :: S', m, r => fin (badAt [] r 2) (S', m)
  | .rnd :: S', m, r => fin (badAt [] r 2) (S', m)
  | _, _, _ => .inl 1
/-- one line more: refused at a word, or how it goes on -/
def step (v : Nat) (S : List Bk) (m : Nat) : List PySem.Str → Sum Nat (List Bk × Nat)
  | [] => .inl 1
  | z :: r =>
    if z = "else" then stElse S m r
    else if z = "end" then stEnd S m r
    else if ¬ (m < 60 ∧ S.length < 6) then .inl 1
    else if z = "set" then fin (badAt (setS v r) r 2) (S, m + 1)
    else if z = "tell" then fin (badAt [.name] r 2) (S, m + 1)
    else if z = "if" then fin (badAt [.name] r 2) (.ifk :: S, m + 1)
    else if z = "round" ∧ rnds S < 3 then fin (badAt [.num 0 12] r 2) (.rnd :: S, m + 1)
    else .inl 1
/-- lines with words, each with its number -/
def numb : Nat → List (List PySem.Str) → List (Nat × List PySem.Str)
  | _, [] => []
  | i, ws :: r => if ws = [] then numb (i + 1) r else (i, ws) :: numb (i + 1) r
/-- where rows are refused, N the number of the line behind the last -/
def dueG (v N : Nat) : List Bk → Nat → List (Nat × List PySem.Str) → Option (Nat × Nat)
  | S, _, [] => if S = [] then none else some (N, 1)
  | S, m, (n, ws) :: r => match step v S m ws with
    | .inl b => some (n, b)
    | .inr (S', m') => dueG v N S' m' r
def badHead (z : PySem.Str) (ks : List So) : List PySem.Str → Nat
  | [] => 1
  | x :: r => if x = z then badAt ks r 2 else 1
def wideOf (ws : List PySem.Str) : Nat := (numW 1 12 (ws.getD 1 "")).getD 0
def inS (ws : List PySem.Str) : List So := List.replicate (min (ws.length - 1) 4) .name
def dueR (N v : Nat) : List (Nat × List PySem.Str) → Option (Nat × Nat)
  | [] => some (N, 1)
  | (n, ws) :: r => if badHead "in" (inS ws) ws = 0 then dueG v N [] 0 r else some (n, badHead "in" (inS ws) ws)
def dueL (N : Nat) : List (Nat × List PySem.Str) → Option (Nat × Nat)
  | [] => some (N, 1)
  | (n, ws) :: r => if badHead "wide" [.num 1 12] ws = 0 then dueR N (wideOf ws) r else some (n, badHead "wide" [.num 1 12] ws)
/-- where a text is refused, if it is: the line and the word -/
def due (A : List (List PySem.Str)) : Option (Nat × Nat) := dueL (A.length + 1) (numb 1 A)
/-! #### going from line to line -/
inductive Go (v : Nat) (L : List (Nat × List PySem.Str)) : List Bk → Nat → Nat → List Bk → Nat → Nat → Prop
  | refl {S m k} : Go v L S m k S m k
  | step {S m k n ws S1 m1 S' m' k'} (h : L[k]? = some (n, ws)) (e : step v S m ws = .inr (S1, m1)) (g : Go v L S1 m1 (k + 1) S' m' k') : Go v L S m k S' m' k'
theorem Go.trans {v : Nat} {L : List (Nat × List PySem.Str)} {S S1 S2 : List Bk} {m k m1 k1 m2 k2 : Nat} (a : Go v L S m k S1 m1 k1) (b : Go v L S1 m1 k1 S2 m2 k2) : Go v L S m k S2 m2 k2 := by
  induction a with
  | refl => exact b
  | step h e _ ih => exact .step h e (ih b)
theorem Go.one {v : Nat} {L : List (Nat × List PySem.Str)} {S S1 : List Bk} {m k n m1 : Nat} {ws : List PySem.Str} (h : L[k]? = some (n, ws)) (e : K9.step v S m ws = .inr (S1, m1)) : Go v L S m k S1 m1 (k + 1) := .step h e .refl
theorem drop_at {α : Type} {L : List α} {k : Nat} {x : α} (h : L[k]? = some x) : L.drop k = x :: L.drop (k + 1) := by
  obtain ⟨hk, e⟩ := List.getElem?_eq_some_iff.mp h
  rw [List.drop_eq_getElem_cons hk, e]
theorem Go.due {v N : Nat} {L : List (Nat × List PySem.Str)} {S S' : List Bk} {m k m' k' : Nat} (g : Go v L S m k S' m' k') : dueG v N S m (L.drop k) = dueG v N S' m' (L.drop k') := by
  induction g with
  | refl => rfl
  | step h e _ ih =>
    rw [drop_at h, dueG, e]
    exact ih
theorem due_bad {v N : Nat} {L : List (Nat × List PySem.Str)} {S : List Bk} {m k n b : Nat} {ws : List PySem.Str} (h : L[k]? = some (n, ws)) (e : step v S m ws = .inl b) : dueG v N S m (L.drop k) = some (n, b) := by
  rw [drop_at h, dueG, e]
theorem due_end {v N : Nat} {L : List (Nat × List PySem.Str)} {S : List Bk} {m k : Nat} (h : L.length ≤ k) (hS : S ≠ []) : dueG v N S m (L.drop k) = some (N, 1) := by
  rw [List.drop_eq_nil_of_le h, dueG, if_neg hS]
theorem due_done {v N : Nat} {L : List (Nat × List PySem.Str)} {m k : Nat} (h : L.length ≤ k) : dueG v N [] m (L.drop k) = none := by
  rw [List.drop_eq_nil_of_le h, dueG, if_pos rfl]
theorem badAt_ge : ∀ (ks : List So) (zs : List PySem.Str) (i : Nat), badAt ks zs i = 0 ∨ i ≤ badAt ks zs i
  | [], [], _ => .inl rfl
  | [], _ :: _, _ => .inr (Nat.le_refl _)
  | _ :: _, [], _ => .inr (Nat.le_refl _)
  | k :: ks, z :: zs, i => by
    unfold badAt
    split
    · rcases badAt_ge ks zs (i + 1) with h | h
      · exact .inl h
      · exact .inr (by omega)
    · exact .inr (Nat.le_refl _)
theorem numb_mem : ∀ {i : Nat} {A : List (List PySem.Str)} {q : Nat × List PySem.Str}, q ∈ numb i A → q.2 ≠ [] ∧ i ≤ q.1 ∧ q.1 < i + A.length
  | _, [], _, h => by cases h
  | i, ws :: r, q, h => by
    unfold numb at h
    split at h
    · have := numb_mem h
      rw [List.length_cons]
      exact ⟨this.1, by omega, by omega⟩
    · rename_i hw
      rcases List.mem_cons.mp h with rfl | h
      · exact ⟨hw, Nat.le_refl _, by rw [List.length_cons]; omega⟩
      · have := numb_mem h
        rw [List.length_cons]
        exact ⟨this.1, by omega, by omega⟩
theorem numb_len : ∀ (i : Nat) (A : List (List PySem.Str)), (numb i A).length ≤ A.length
  | _, [] => Nat.le_refl _
  | i, ws :: r => by
    have := numb_len (i + 1) r
    unfold numb
    split
    · rw [List.length_cons]; omega
    · rw [List.length_cons, List.length_cons]; omega
theorem numb_snd : ∀ (i : Nat) (A : List (List PySem.Str)), (numb i A).map (·.2) = A.filter fun l => !l.isEmpty
  | _, [] => rfl
  | i, [] :: r => by
    rw [numb, if_pos rfl, numb_snd (i + 1) r]
    rfl
  | i, (a :: b) :: r => by
    rw [numb, if_neg (by simp), List.map_cons, numb_snd (i + 1) r]
    rfl
end K9

set_option Elab.async false
set_option linter.all false
set_option maxRecDepth 100000
set_option maxHeartbeats 4000000
namespace K9
open PySem PySem.Spec PyProof.Rows L2
/-! ### a caught exception that is kept: except X as n: caught = n -/
/-- at a: an exception of that class, its own dict at d -/
def Hex (cls : Value) (d : Option Addr) (a : Addr) : HO := .ext fun h => ∃ (oe : Obj) (vs : Array Value), h.get? a = some oe ∧ Zc cls d oe ∧ oe.data = .fields vs
theorem hex_ok {P : Program} {w : World} {H : Hp} {h : Heap} {a : Addr} {cls : Value} {d : Option Addr} {oe : Obj} {vs : Array Value} (e : h.get? a = some oe) (z : Zc cls d oe) (f : oe.data = .fields vs) : ObjOk P w H h a (Hex cls d a) :=
  ⟨⟨oe, vs, e, z, f⟩, ⟨oe, e⟩, fun _ _ ⟨o, v, q, r⟩ k => ⟨o, v, k o q, r⟩⟩
theorem hex_at {P : Program} {w : World} {H : Hp} {h : Heap} {a : Addr} {cls : Value} {d : Option Addr} (hok : HOk P w H h) (he : H a = some (Hex cls d a)) : ∃ (oe : Obj) (vs : Array Value), h.get? a = some oe ∧ Zc cls d oe ∧ oe.data = .fields vs := (hok a _ he).1
def wKeep (K : PySem.W.Frag) (c : Value) (i : Nat) (ts : Addr → Value → Option Addr → TS) (Wout : WX) (D : Ends) : WX := fun cls d σ H =>
  ∃ b, PySem.W.exmOne K cls c = some b ∧ (b = true → ∀ a, H a = none → ts a cls d { nx := fun σ' H' => D.nx (σ'.set i none) (upd H' a (Hex cls d a)), rt := fun v H' => D.rt v (upd H' a (Hex cls d a)), bk := fun σ' H' => D.bk (σ'.set i none) (upd H' a (Hex cls d a)), ct := fun σ' H' => D.ct (σ'.set i none) (upd H' a (Hex cls d a)) } (σ.set i (some (.ref a))) H) ∧
    (b = false → Wout cls d σ H)
theorem Inv.track {X : Cx} {pins : List (Addr × Obj)} {σ : L2.St} {H : Hp} {s : Shared} {a : Addr} {oe : Obj} {vs : Array Value} {cls : Value} {d : Option Addr} (I : L2.Inv X ((a, oe) :: pins) σ H s) (hd : oe.data = .fields vs) (hz : Zc cls d oe) (n0 : X.s_0.heap.get? a = none) (np : ∀ p ∈ X.pn ++ pins, p.1 ≠ a) :
    L2.Inv X pins σ (upd H a (Hex cls d a)) s := by
  obtain ⟨ea, na, nL, nF, _⟩ := I.pin (a, oe) (by simp)
  have ne0 : ∀ b o, X.s_0.heap.get? b = some o → b ≠ a := fun b o e z => by
    rw [z, n0] at e
    cases e
  refine ⟨I.ok, I.os, I.bare, ⟨I.base.keep, I.base.slot, fun b o e n hq => ?_, I.base.there, fun b xs e => ?_, fun b o u e => ?_, fun b ps e => ?_⟩, I.loc, I.cell, ?_, fun x c e => ?_, fun p hp => ?_, ?_, I.len⟩
  · rw [upd_ne (ne0 b o e)]
    exact I.base.free b o e n hq
  · have q := I.base.tups b xs e
    rw [upd_ne (ne_of_none q na)]
    exact q
  · have q := I.base.frzs b o u e
    rw [upd_ne (ne_of_none q na)]
    exact q
  · obtain ⟨m, q⟩ := I.base.tbls b ps e
    exact ⟨m, by rw [upd_ne (ne_of_none q na)]; exact q⟩
  · rw [upd_ne (Ne.symm nL)]
    exact I.free
  · have hc : c ≠ a := fun z => by
      obtain ⟨v, o, ho, hv⟩ := I.cell x c e
      rw [z, ea] at ho
      cases ho
      rw [hd] at hv
      cases hv
    rw [upd_ne hc]
    exact I.freeC x c e
  · obtain ⟨e, n, ne, nf, d'⟩ := I.pin p (by
      rcases List.mem_append.mp hp with h | h
      · exact List.mem_append_left _ h
      · exact List.mem_append_right _ (List.mem_cons_of_mem _ h))
    exact ⟨e, by rw [upd_ne (np p hp)]; exact n, ne, nf, d'⟩
  · exact HOk.laidN I.hok (fun _ _ q => q) na (hex_ok ea hz hd)
section
variable {X : Cx} {x n : PySem.Str} {c : Value} {i : Nat} {body suite : List Stmt} {b₀ : Stmt} {np pos pos' : Pos} {tb : WX → TS} {ts : Addr → Value → Option Addr → TS} {Wout : WX}
theorem ps_try_keep (hs : X.stack = X.env :: X.outer) (hf : X.env.frame = some X.env.locals) (hex : X.ex = []) (hN : X.N.Nodup) (hi : X.N[i]? = some n) (hln : X.env.kindOf n = some .local) (hc : Names X x c) (tk : Takes X Wout)
    (hb : ∀ (W : WX) (pn : List (Addr × Obj)) (xe : Value → Shared → Prop), Takes (X.tr pn xe) W → PassesOwn (model X.prog X.w) X.A X.env xe → PSs (X.tr pn xe) body (tb W))
    (hsu : ∀ (a : Addr) (oe : Obj) (cls : Value) (d : Option Addr) (pn : List (Addr × Obj)), Zc cls d oe → (∃ vs, oe.data = .fields vs) → PSs (X.suite a ((a, oe) :: pn)) (b₀ :: suite) (ts a cls d)) :
    PS X (.Try body [.ExceptHandler (some (.Name x np)) (some n) (b₀ :: suite) pos'] [] [] pos) (fun D σ H => tb (wKeep X.K c i ts Wout D) D σ H) := by
  refine ⟨fun pins s σ H D I h => ?_⟩
  have ok := I.ok
  have hfr : X.A.frames = some (X.env :: X.outer) := by rw [ok.frames, hs]
  have hloc : Loc X.env.scope n := .inl hln
  refine wpAny_Try_except ?_
  refine wpAny_mono ((hb (wKeep X.K c i ts Wout D) (X.pn ++ pins) (fun e s₁ => wpAny (model X.prog X.w) X.A (noteFrame e X.env) (fun _ s₂ => wpAny (model X.prog X.w) X.A (setFlight e none) (fun _ s₃ =>
    wpAny (model X.prog X.w) X.A (handleBy e X.env [.ExceptHandler (some (.Name x np)) (some n) (b₀ :: suite) pos']) (SP X pins D) X.xe s₃) X.xe s₂) X.xe s₁) (fun u s' xx => ?_) PassesOwn.looking).run [] s σ H D (I.toTry _) h) (fun f s1 hsp => ?_) (fun e s1 he => he)
  · obtain ⟨a, B, sI, pins', σ', H', cls, d, rfl, J', nb, up, sky, na, os, ag, b, hb1, hyes, hno⟩ := xx
    have J : L2.Inv X pins σ' H' sI := J'.ofTry ok
    have sky' : Sky B (X.env :: X.outer) a (Zc cls d) X.env.locals s'.heap := by rw [← hs]; exact sky
    show wpAny (model X.prog X.w) X.A (noteFrame (.ref a) X.env) _ _ _
    refine Sky.land Zc.steady hfr hf sky' fun h3 fl3 up3 => ?_
    have J3 : L2.Inv X pins σ' H' { s' with heap := h3 } := J.landed nb fl3.1 (up.trans up3) os ag
    obtain ⟨oe3, vs3, he3, hz3, hd3⟩ := fl3.there
    have notFr : ∀ {h : Heap} {o : Obj} {vs : Array Value}, h.FunFrames B (X.env :: X.outer) → h.get? a = some o → o.data = .fields vs → a ∉ frs (X.env :: X.outer) := fun {h o vs} ff e dd hm => by
      obtain ⟨_, o', e', hnf⟩ := ff.mem hm
      rw [e] at e'; cases e'
      exact hnf _ dd
    have nfr := notFr fl3.2.2.1 he3 hd3
    have nL : a ≠ X.env.locals := fun z => nfr (List.mem_filterMap.mpr ⟨X.env, List.mem_cons_self, by rw [hf, z]⟩)
    have nF : a ∉ X.fs := fun hm => by
      obtain ⟨e, he, q⟩ := List.mem_filterMap.mp hm
      exact nfr (List.mem_filterMap.mpr ⟨e, List.mem_cons_of_mem _ he, q⟩)
    have gone : ∀ o, sI.heap.get? a ≠ some o := fun o e => by
      have z := nb a o e (by rw [hs]; exact nfr)
      rw [fl3.2.1] at z
      cases z
    have n0 : X.s_0.heap.get? a = none := by
      cases e : X.s_0.heap.get? a with
      | none => rfl
      | some o =>
        obtain ⟨o', e'⟩ := J.base.there a o e (by rw [hex]; exact fun z => nomatch z)
        exact absurd e' (gone o')
    have np' : ∀ p ∈ X.pn ++ pins, p.1 ≠ a := fun p hp z => by
      obtain ⟨e, _⟩ := J.pin p hp
      rw [z] at e
      exact gone _ e
    have S3 := J3.suite he3 hd3 na nL nF
    refine wpAny_handleBy_cons (codeAny_handlers_test ?_) (by intro q; cases q)
    have LT : PySem.W.Looks (model X.prog X.w) h3 (typeOf (.ref a)) cls := fun A Q E s k q => wpAny_typeOf_ref (k _ _ he3) (by rw [hz3.1]; exact q)
    have LM := PySem.W.exm_one (M := model X.prog X.w) (J3.kIn) LT hb1
    have test : ∀ {Q : Value → Shared → Prop} {E : Value → Shared → Prop}, Q c { s' with heap := h3 } → wpAny (model X.prog X.w) (X.A.mark (some (.ref a))) (eval (.Name x np) X.env) Q E { s' with heap := h3 } := fun {Q E} q => by
      obtain ⟨hg, hdbg, hm | ⟨hm, hv, hnn⟩⟩ := hc
      · exact ld_glob (X := X.suite a ((a, oe3) :: (X.pn ++ pins))) S3 hg hm q hdbg
      · exact ld_blt (X := X.suite a ((a, oe3) :: (X.pn ++ pins))) S3 hg hm hv q hnn hdbg
    refine test (LM.here ?_)
    cases b with
    | true =>
      refine codeAny_handlers_suite_as ?_
      refine HandSPX.lands_againZ fl3 fun h4 fl4 up4 => ?_
      have J4 : L2.Inv X pins σ' H' { s' with heap := h4 } := J.landed nb fl4.1 ((up.trans up3).trans up4) os ag
      obtain ⟨oe4, vs4, he4, hz4, hd4⟩ := fl4.there
      have S4 := J4.suite he4 hd4 na nL nF
      refine store_ok (X := X.suite a ((a, oe4) :: (X.pn ++ pins))) (v := .ref a) S4 hN hi hloc rfl (fun s5 S5 => ?_) (.inr hln)
      refine wpAny_mono ((hsu a oe4 cls d (X.pn ++ pins) hz4 ⟨_, hd4⟩).run [] s5 _ H' _ S5 (hyes rfl a na)) (fun f s6 hsp => ?_) (fun _ _ z => False.elim z)
      have end_ : ∀ {σ6 : L2.St} {H6 : Hp} {Q : Shared → Prop}, L2.Inv (X.suite a ((a, oe4) :: (X.pn ++ pins))) [] σ6 H6 s6 → (∀ s7, L2.Inv X pins (σ6.set i none) (upd H6 a (Hex cls d a)) s7 → Q s7) →
          wpAny (model X.prog X.w) X.A (do bindName X.env n .none; unbindBehindTheSuite X.env n pos') (fun _ s7 => Q s7) X.xe s6 := fun {σ6 H6 Q} S6 hq => by
        have K6 : L2.Inv X ((a, oe4) :: pins) σ6 H6 s6 := ⟨ok, S6.os, S6.bare, S6.base, S6.loc, S6.cell, S6.free, S6.freeC, fun p hp => S6.pin p (by
          show p ∈ ((a, oe4) :: (X.pn ++ pins)) ++ []
          rw [List.append_nil]
          rcases List.mem_append.mp hp with h | h
          · exact List.mem_cons_of_mem _ (List.mem_append_left _ h)
          · rcases List.mem_cons.mp h with h | h
            · rw [h]; exact List.mem_cons_self
            · exact List.mem_cons_of_mem _ (List.mem_append_right _ h)), S6.hok, S6.len⟩
        exact gone_ok K6 hN hi hln fun s7 J7 => hq s7 (Inv.track J7 hd4 hz4 n0 np')
      cases f with
      | next =>
        obtain ⟨σ6, H6, S6, q6⟩ := hsp
        exact end_ S6 fun s7 J7 => ⟨_, _, J7, q6⟩
      | brk =>
        obtain ⟨σ6, H6, S6, q6⟩ := hsp
        exact end_ S6 fun s7 J7 => ⟨_, _, J7, q6⟩
      | cont =>
        obtain ⟨σ6, H6, S6, q6⟩ := hsp
        exact end_ S6 fun s7 J7 => ⟨_, _, J7, q6⟩
      | ret u =>
        obtain ⟨v6, σ6, H6, S6, r6, q6⟩ := hsp
        exact end_ S6 fun s7 J7 => ⟨_, _, _, J7, r6, q6⟩
    | false =>
      show wpAny _ X.A (handleBy (.ref a) X.env []) _ _ _
      refine wpAny_handleBy_nil ?_
      obtain ⟨k1, k2, k3, oe, vs, T, oT, ts', he, hz, hd, h1, hr⟩ := id fl3
      unfold PySem.passOn
      refine wpAny_bind (wpAny_field he hd h1 ?_)
      rw [if_neg (show ¬ ((Value.ref T == Value.none) = true) from by simp)]
      have fin : wpAny (model X.prog X.w) X.A (setFlight (.ref a) X.env.frame) (fun _ s4 => wpAny (model X.prog X.w) X.A (throw (.ref a) : Sem Flow) (SP X pins D) X.xe s4) X.xe { s' with heap := h3 } := by
        rw [hf]
        refine HandSPX.setFlight_upZ fl3 fun h4 hh4 up4 => wpAny_throw (tk _ _ ?_)
        exact ⟨a, B, sI, pins, σ', H', cls, d, rfl, J, nb, (up.trans up3).trans up4, .inr (.inr (by rw [hs]; exact hh4)), na, os, ag, hno rfl⟩
      first
        | exact wpAny_bind (wpAny_pure (wpAny_bind fin))
        | exact wpAny_bind fin
  · cases f with
    | next =>
      obtain ⟨σ', H', J', q⟩ := hsp
      exact wpAny_execs_nil ⟨σ', H', J'.ofTry ok, q⟩
    | brk =>
      obtain ⟨σ', H', J', q⟩ := hsp
      exact ⟨σ', H', J'.ofTry ok, q⟩
    | cont =>
      obtain ⟨σ', H', J', q⟩ := hsp
      exact ⟨σ', H', J'.ofTry ok, q⟩
    | ret u =>
      obtain ⟨v, σ', H', J', r, q⟩ := hsp
      exact ⟨v, σ', H', J'.ofTry ok, r, q⟩
end
end K9

set_option Elab.async false
set_option linter.all false
set_option maxRecDepth 100000
set_option maxHeartbeats 4000000
namespace K9
open PySem PySem.Spec PyProof.Rows L2
/-! ### BadText: made, raised -/
section
variable {X : Cx}
/-- B.__init__(self, ..), B an own class over ValueError without one of its own -/
theorem pe_ini {B : Addr} {x : PySem.Str} {mc : Value} {e : Expr} {es : List Expr} {ta : TA} {p1 p2 pos : Pos} {pl : Sem Bool} (gl : Gl X x) (gm : X.mg x = some (.ref B)) (ga : PySem.W.specialIn X.K (.ref B) "__getattribute__" = some (some (.builtin "type.__getattribute__")))
    (rd : PySem.W.readsIn X.K B mc = true) (fc : PySem.W.findCls X.K (.ref B) mc "__init__" = some (.val (.builtin "ValueError.__init__"))) (ha : PA X (e :: es) ta)
    (hc : eval (.Call (.Attribute (.Name x p1) "__init__" p2) (e :: es) [] pos) X.env = (do
      let ov ← eval (.Name x p1) X.env
      standAt p2.atName
      let (f, first) ← holding [ov] (getMethod ov "__init__" pl)
      callWith pos f first (backTo pos (starEach (e :: es) X.env)) (backToKw pos (keywordEach [] X.env))) := by rfl)
    (st : starEach (e :: es) X.env = (false, eval e X.env) :: starEach es X.env := by rfl) (pn : (backTo pos (starEach es X.env)).any (·.1) = false := by rfl) (db : (x == ("__debug__" : PySem.Str)) = false := by decide) :
    PE X (.Call (.Attribute (.Name x p1) "__init__" p2) (e :: es) [] pos) (tVeI X.K ta) := by
  refine ⟨fun pins s σ H Q I h => PySem.W.methodCall_KW (ld_glob I gl gm ?_ db) hc⟩
  refine PySem.W.method_cls I.kIn ga (PySem.W.cls_value I.kIn rd fc (by rfl) ?_)
  show wpAny _ _ (callWith pos (Value.builtin "ValueError.__init__") [] (backTo pos (starEach (e :: es) X.env)) []) _ _ _
  refine PyProof.Rows.callWith_method1 (thn (ha.run pos pins _ σ H _ (I.tok _) h) fun us s1 ⟨vs, H1, I1, rel, a, C, ws, ev, few, T, ea, q⟩ => ?_) st pn
  subst ev
  cases rel with
  | @cons _ u0 _ ur r0 rw' =>
    obtain rfl : u0 = Value.ref a := r0
    exact oinit_ok T I1 ea (by rw [← Paired.length rw', sizeLine_eq]; omega) fun s' J => ⟨.non, H1, J, rfl, q⟩
end
def inner0 (st : Stmt) : Stmt := match st with
  | .ClassDef _ _ _ b _ _ _ _ _ _ _ => b.getD 0 (.Pass ⟨0, 0, 0, 0⟩)
  | s => s
abbrev sBad : Stmt := inner0 (top 2)
theorem scBad : FnScope ["self", "line", "word"] ["self", "line", "word"] (defScope sBad) := ⟨rfl, rfl, rfl, by decide +kernel, rfl, by decide +kernel, by decide +kernel⟩
/-- a text of at most a hundred signs, a number below a thousand millions -/
def Small (v : V) : Prop := (∃ y : PySem.Str, v = .str y ∧ y.length ≤ 100) ∨ ∃ i : Int, v = .int i ∧ 0 ≤ i ∧ i < 1000000000
/-- a part of an f-string -/
theorem fmt_small {te : TE} {σ : L2.St} {H : Hp} {v : V} {Q : VK} (h : Small v) (e : ∀ R : VK, R v H → te σ H R) (q : ∀ y : PySem.Str, y.length ≤ 2000 → Q (.str y) H) : tFmt te σ H Q := by
  refine e _ ?_
  rcases h with ⟨y, rfl, h⟩ | ⟨i, rfl, h0, h1⟩
  · exact .inl ⟨y, rfl, by rw [sizeLine_eq]; omega, q y (by omega)⟩
  · exact .inr ⟨i, rfl, small_log h0 h1, q _ (Nat.le_trans (int_text_len_1921 (small_log h0 h1)) (by decide))⟩
theorem app_leS {a b : PySem.Str} {m n k : Nat} (h1 : a.length ≤ m) (h2 : b.length ≤ n) (h : m + n ≤ k) : (a ++ b).length ≤ k := by
  rw [PySem.Str.length_append]; omega
theorem js_c {ts : List TE} {acc z : PySem.Str} {σ : L2.St} {H : Hp} {Q : PySem.Str → Hp → Prop} {m : Nat} (h1 : acc.length ≤ m) (h2 : z.length ≤ 100) (h : m + 100 ≤ 100000) (q : (acc ++ z).length ≤ m + 100 → tJs ts (acc ++ z) σ H Q) : tJs (tC (.str z) :: ts) acc σ H Q :=
  ⟨z, rfl, by rw [sizeLine_eq]; exact app_leS h1 h2 (by omega), q (app_leS h1 h2 (Nat.le_refl _))⟩
theorem js_v {ts : List TE} {acc : PySem.Str} {te : TE} {σ : L2.St} {H : Hp} {v : V} {Q : PySem.Str → Hp → Prop} {m : Nat} (h1 : acc.length ≤ m) (hv : Small v) (e : ∀ R : VK, R v H → te σ H R) (h : m + 2000 ≤ 100000) (q : ∀ out : PySem.Str, out.length ≤ m + 2000 → tJs ts out σ H Q) : tJs (tFmt te :: ts) acc σ H Q :=
  fmt_small hv e fun y hy => ⟨y, rfl, by rw [sizeLine_eq]; exact app_leS h1 hy (by omega), q _ (app_leS h1 hy (Nat.le_refl _))⟩
def spIni (K : PySem.W.Frag) (C : Addr) (f1 f2 : PySem.Str) : Sp := fun vs H Q _ => ∃ (a : Addr) (x y : V), vs = [.ref a, x, y] ∧ H a = some (exo a C none) ∧ Small x ∧ Small y ∧
  ∀ d, H d = none → d ≠ a → Q .non (upd (upd (upd H d (exd d [(f1, x)])) a (exo a C (some d))) d (exd d [(f2, y), (f1, x)]))
/-- what the classes over ValueError must say -/
structure BaseC (K : PySem.W.Frag) (B : Addr) : Prop where
  ga : PySem.W.specialIn K (.ref B) "__getattribute__" = some (some (.builtin "type.__getattribute__"))
  rd : PySem.W.readsIn K B (.type "type") = true
  fc : PySem.W.findCls K (.ref B) (.type "type") "__init__" = some (.val (.builtin "ValueError.__init__"))
section
variable {P : Program} {w : World} {K : PySem.W.Frag} {mg : PySem.Str → Option Value} {base : Heap} {f B C : Addr} {fd : FuncData}
theorem ini_read {σ : L2.St} {H : Hp} {a : Addr} {x y : V} {f1 f2 : PySem.Str} {D : Ends} (T : OexC K C) (n1 : PySem.W.findIn K (.ref C) f1 = some none) (n2 : PySem.W.findIn K (.ref C) f2 = some none) (ha : H a = some (exo a C none)) (e0 : σ[0]? = some (some (.ref a))) (e1 : σ[1]? = some (some x)) (e2 : σ[2]? = some (some y))
    (q : ∀ d, H d = none → d ≠ a → D.nx σ (upd (upd (upd H d (exd d [(f1, x)])) a (exo a C (some d))) d (exd d [(f2, y), (f1, x)]))) :
    tSeq (tOst K f1 (tVar 0) (tVar 1)) (tSeq (tOst K f2 (tVar 0) (tVar 2)) tNext) D σ H := by
  refine ⟨x, by rw [e1], .ref a, by rw [e0], a, C, rfl, T, n1, .inl ⟨ha, fun d hd ne => ?_⟩⟩
  refine ⟨y, by rw [e2], .ref a, by rw [e0], a, C, rfl, T, n2, .inr ⟨d, [(f1, x)], by rw [upd_same], by rw [upd_ne ne, upd_same], (show 1 ≤ 900 by decide), ?_⟩⟩
  exact q d hd ne
theorem ok_bad (F : FunD K "__init__" "BadText.__init__" (defArgs sBad) (defBody sBad) (defScope sBad) [] [] f fd) (T : OexC K C) (n1 : PySem.W.findIn K (.ref C) "line" = some none) (n2 : PySem.W.findIn K (.ref C) "word" = some none) (b : BaseC K B) (gB : mg "BitError" = some (.ref B)) :
    FnOk P w K mg base CX0 1 f fd ["self", "line", "word"] (spIni K C "line" "word") := by
  refine F.ok (k := 0) scBad (fun vs H Q E h => ?_) (fun cdv A outer s H vs Q E hr h => ?_)
  · obtain ⟨a, x, y, rfl, _⟩ := h
    rfl
  · obtain ⟨a, x, y, rfl, ha, hx, hy, q⟩ := h
    refine ⟨_, PSs.nox (pss_cons (ps_expr (pe_ini (by rfl) gB b.ga b.rd b.fc (pa_cons (pv 0) (pa_cons (pe_joined (.cons pe_str (.cons (pe_fmt (pv 1)) (.cons pe_str (.cons (pe_fmt (pv 2)) (.cons pe_str .nil)))))) pa_nil))))
      (pss_cons (ps_ost (pv 0) (pv 1)) (pss_cons (ps_ost (pv 0) (pv 2)) pss_nil))), ?_⟩
    refine ⟨.ref a, rfl, ?_⟩
    refine js_c (m := 0) (Nat.le_refl _) (by decide +kernel) (by decide) fun h1 => ?_
    refine js_v h1 hx (fun R r => ⟨x, rfl, r⟩) (by decide) fun o1 h2 => ?_
    refine js_c h2 (by decide +kernel) (by decide) fun h3 => ?_
    refine js_v h3 hy (fun R r => ⟨y, rfl, r⟩) (by decide) fun o2 h4 => ?_
    refine js_c h4 (by decide +kernel) (by decide) fun h5 => ?_
    exact ⟨a, C, _, rfl, (show 1 ≤ 1000 by decide), T, ha, ini_read T n1 n2 ha rfl rfl rfl q⟩
end
/-- what the makers must say -/
structure MkC (K : PySem.W.Frag) (C fI : Addr) : Prop where
  t : OexC K C
  i : PySem.W.findIn K (.ref C) "__init__" = some (some (.ref fI))
  f : PySem.W.typeIn K (.ref fI) = some (.type "function")
theorem lk_line (x y : V) : ([("word", y), ("line", x)] : List (PySem.Str × V)).lookup ("line" : PySem.Str) = some x := by rw [lookup_put, if_neg (by decide +kernel), lookup_put, if_pos rfl]
theorem lk_word (x y : V) : ([("word", y), ("line", x)] : List (PySem.Str × V)).lookup ("word" : PySem.Str) = some y := by rw [lookup_put, if_pos rfl]
/-- raise C(x, y), C of the two -/
theorem made_gone {K : PySem.W.Frag} {C : Addr} {f1 f2 : PySem.Str} {x y : V} {H : Hp} {R : Addr → Hp → Addr → List (PySem.Str × V) → Prop} {E : XK} (hx : Small x) (hy : Small y) (q : ∀ a d H2 H', H' = upd (del H2 a) d (.xd [(f2, y), (f1, x)]) → Kept None H H' → H' d = some (.xd [(f2, y), (f1, x)]) → R a H2 d [(f2, y), (f1, x)]) :
    ∀ a, H a = none → spIni K C f1 f2 [.ref a, x, y] (upd H a (exo a C none)) (fun v H2 => v = .non ∧ ∃ (d : Addr) (fs : List (PySem.Str × V)), H2 a = some (exo a C (some d)) ∧ H2 d = some (exd d fs) ∧ H d = none ∧ R a H2 d fs) E := fun a ha => by
  refine ⟨a, x, y, rfl, upd_same, hx, hy, fun d hd ne => ⟨rfl, d, [(f2, y), (f1, x)], ?_, upd_same, ?_, q a d _ _ rfl (fun b o e _ => ?_) upd_same⟩⟩
  · rw [upd_ne (Ne.symm ne), upd_same]
  · rw [upd_ne ne] at hd
    exact hd
  · rw [upd_ne ne] at hd
    have hb : b ≠ a := ne_of_none e ha
    have hb2 : b ≠ d := ne_of_none e hd
    rw [upd_ne hb2, del_ne hb, upd_ne hb2, upd_ne hb, upd_ne hb2, upd_ne hb, e]
    exact ko_refl o
end K9

set_option Elab.async false
set_option linter.all false
set_option maxRecDepth 100000
set_option maxHeartbeats 4000000
namespace K9
open PySem PySem.Spec PyProof.Rows L2
/-! ### a number within bounds is written in one way -/
theorem len4 {l : List Nat} (h1 : 1 ≤ l.length) (h4 : l.length ≤ 4) : (∃ a, l = [a]) ∨ (∃ a b, l = [a, b]) ∨ (∃ a b c, l = [a, b, c]) ∨ ∃ a b c d, l = [a, b, c, d] := by
  match l, h1, h4 with
  | [a], _, _ => exact .inl ⟨a, rfl⟩
  | [a, b], _, _ => exact .inr (.inl ⟨a, b, rfl⟩)
  | [a, b, c], _, _ => exact .inr (.inr (.inl ⟨a, b, c, rfl⟩))
  | [a, b, c, d], _, _ => exact .inr (.inr (.inr ⟨a, b, c, d, rfl⟩))
theorem dig_inj {l r : List Nat} (hl : NumText.AllDigits l) (hr : NumText.AllDigits r) (l1 : 1 ≤ l.length) (l4 : l.length ≤ 4) (r1 : 1 ≤ r.length) (r4 : r.length ≤ 4) (zl : l.head? = some 48 → l = [48]) (zr : r.head? = some 48 → r = [48])
    (e : NumText.digitsVal l = NumText.digitsVal r) : l = r := by
  rcases len4 l1 l4 with ⟨a, rfl⟩ | ⟨a, b, rfl⟩ | ⟨a, b, c, rfl⟩ | ⟨a, b, c, d, rfl⟩ <;> rcases len4 r1 r4 with ⟨a', rfl⟩ | ⟨a', b', rfl⟩ | ⟨a', b', c', rfl⟩ | ⟨a', b', c', d', rfl⟩ <;>
    simp only [NumText.AllDigits, List.mem_cons, List.not_mem_nil, or_false, forall_eq_or_imp, forall_eq, List.head?_cons, Option.some.injEq, List.cons.injEq, reduceCtorEq, and_false, and_true, imp_false, NumText.digitsVal, List.foldl_cons, List.foldl_nil] at * <;> omega
theorem num_parts {z : PySem.Str} {n : Nat} (h : numV z.cps.toList = .int (n : Int)) : NumText.AllDigits z.cps.toList ∧ 1 ≤ z.cps.toList.length ∧ z.cps.toList.length ≤ 4 ∧ (z.cps.toList.head? = some 48 → z.cps.toList = [48]) ∧ NumText.digitsVal z.cps.toList = n := by
  unfold numV at h
  split at h
  · rename_i ok
    have e := V.int.inj h
    unfold numOk at ok
    obtain ⟨ok, h3⟩ := Bool.and_eq_true_iff.mp ok
    obtain ⟨ok, h2⟩ := Bool.and_eq_true_iff.mp ok
    obtain ⟨h0, h1⟩ := Bool.and_eq_true_iff.mp ok
    have h0 := of_decide_eq_true h0
    have h1 := of_decide_eq_true h1
    have h2 := (figB_iff _).mp h2
    have h3 : ¬ ((fig z.cps.toList).head? = some 48 ∧ ¬ z.cps.toList = [48]) := by
      rintro ⟨y1, y2⟩
      rw [decide_eq_true y1, decide_eq_false y2] at h3
      cases h3
    unfold numI at e
    by_cases hm : z.cps.toList.head? = some 45
    · exfalso
      rw [if_pos hm] at e
      have ef : fig z.cps.toList = z.cps.toList.tail := by unfold fig; rw [if_pos hm]
      rw [ef] at h0 h1 h2 h3 e
      refine h3 ⟨?_, fun y => by rw [y] at hm; cases hm⟩
      have hz : NumText.digitsVal z.cps.toList.tail = 0 := by omega
      generalize z.cps.toList.tail = t at h0 h1 h2 hz
      rcases len4 h0 h1 with ⟨a, rfl⟩ | ⟨a, b, rfl⟩ | ⟨a, b, c, rfl⟩ | ⟨a, b, c, d, rfl⟩ <;>
        simp only [NumText.AllDigits, List.mem_cons, List.not_mem_nil, or_false, forall_eq_or_imp, forall_eq, List.head?_cons, Option.some.injEq, NumText.digitsVal, List.foldl_cons, List.foldl_nil] at * <;> omega
    · rw [if_neg hm] at e
      have ef : fig z.cps.toList = z.cps.toList := by unfold fig; rw [if_neg hm]
      rw [ef] at h0 h1 h2 h3 e
      refine ⟨h2, h0, h1, fun y => Classical.byContradiction fun y2 => h3 ⟨y, y2⟩, by omega⟩
  · cases h
theorem num_uniq {z : PySem.Str} {n : Nat} (h : numV z.cps.toList = .int (n : Int)) (hn : n < 4096) : z = dec n := by
  obtain ⟨a1, a2, a3, a4, a5⟩ := num_parts h
  obtain ⟨b1, b2, b3, b4, b5⟩ := num_parts (dec_num hn).1
  have e := dig_inj a1 b1 a2 a3 b2 b3 a4 b4 (a5.trans b5.symm)
  rw [← mkS_of z, e, mkS_of]
theorem numW_some {lo hi n : Nat} {z : PySem.Str} (h : numW lo hi z = some n) : numV z.cps.toList = .int (n : Int) ∧ lo ≤ n ∧ n ≤ hi := by
  unfold numW at h
  split at h
  · rename_i i e
    split at h
    · rename_i b
      have := Option.some.inj h
      have hi : i = (n : Int) := by omega
      rw [e, hi]
      exact ⟨rfl, by omega, by omega⟩
    · cases h
  · cases h
theorem numW_dec {lo hi n : Nat} {z : PySem.Str} (h : numW lo hi z = some n) (hh : hi < 4096) : z = dec n := num_uniq (numW_some h).1 (by have := (numW_some h).2.2; omega)
theorem numW_of {lo hi n : Nat} (hn : n < 4096) (h1 : lo ≤ n) (h2 : n ≤ hi) : numW lo hi (dec n) = some n := by
  unfold numW
  rw [(dec_num hn).1]
  dsimp only
  rw [if_pos ⟨by omega, by omega⟩]
  rfl
theorem numV_cases (z : PySem.Str) : (∃ i : Int, numV z.cps.toList = .int i) ∨ numV z.cps.toList = .non := by
  unfold numV
  split
  · exact .inl ⟨_, rfl⟩
  · exact .inr rfl
theorem numW_int {lo hi : Nat} {z : PySem.Str} {i : Int} (h : numV z.cps.toList = .int i) : numW lo hi z = if (lo : Int) ≤ i ∧ i ≤ (hi : Int) then some i.toNat else none := by
  unfold numW
  rw [h]
theorem numW_non {lo hi : Nat} {z : PySem.Str} (h : numV z.cps.toList = .non) : numW lo hi z = none := by
  unfold numW
  rw [h]
end K9

set_option Elab.async false
set_option linter.all false
set_option maxRecDepth 100000
set_option maxHeartbeats 4000000
namespace K9
open PySem PySem.Spec PyProof.Rows L2
abbrev sReadInputs : Stmt := inClass (top 30) 2
theorem scReadInputs : FnScope ["self", "words"] ["self"] (defScope sReadInputs) := ⟨rfl, rfl, rfl, by decide +kernel, rfl, by decide +kernel, by decide +kernel⟩
abbrev sReadSet : Stmt := inClass (top 30) 4
theorem scReadSet : FnScope ["self", "words", "kinds", "number"] ["self", "words"] (defScope sReadSet) := ⟨rfl, rfl, rfl, by decide +kernel, rfl, by decide +kernel, by decide +kernel⟩
def spIn (C : Addr) : Sp := fun vs H Q _ => ∃ (a : Ad) (ls : List (List PySem.Str)) (v : Option Nat) (k m b : Nat) (xs : List PySem.Str), vs = [.ref a.p] ∧ Rd C a ls v k m b H ∧ ls[k]? = some (("in" : PySem.Str) :: xs) ∧ xs.length ≤ 4 ∧ (∀ x ∈ xs, Nm x) ∧ b ≤ 5000 ∧
  ∀ (p : Addr) H', Kept (At3 a) H H' → Rd C a ls v (k + 1) m (b + 5) H' → H' p = some (.tup (xs.map V.str)) → Q (.ref p) H'
theorem nm_in : Nm "in" := by unfold Nm; decide +kernel
theorem nm_set : Nm "set" := by unfold Nm; decide +kernel
theorem nm_word (e : Ex) : Nm e.word := by
  have n0 : ∀ o : Op, Nm o.name := fun o => by
    unfold Nm
    cases o <;> decide +kernel
  cases e with
  | num n => exact (by unfold Nm; decide +kernel : Nm "number")
  | copy y => exact (by unfold Nm; decide +kernel : Nm "copy")
  | two o y z => exact n0 o
  | up y k => exact (by unfold Nm; decide +kernel : Nm "up")
  | down y k => exact (by unfold Nm; decide +kernel : Nm "down")
  | pick c y z => exact (by unfold Nm; decide +kernel : Nm "pick")
theorem Ex.words_eq (e : Ex) : ∃ ws, e.words = e.word :: ws := by cases e <;> exact ⟨_, rfl⟩
theorem ex_split {v : Nat} (e : Ex) (hn : ∀ y ∈ e.names, Nm y) (ok : e.ok v) (hv : v ≤ 12) :
    (∃ ks ws : List PySem.Str, kinds e = ks ++ [("name" : PySem.Str)] ∧ e.words = e.word :: ws ∧ e.vs = e.words.map V.str ∧ (∀ y ∈ e.words, Nm y) ∧ ws.length = ks.length + 1 ∧ ws.length ≤ 3) ∨
    ∃ (ks : List PySem.Str) (kd : PySem.Str) (n lo hi : Nat) (ws : List PySem.Str), kinds e = ks ++ [kd] ∧ kd ≠ "name" ∧ e.words = e.word :: (ws ++ [dec n]) ∧ e.vs = (e.word :: ws).map V.str ++ [.int (n : Int)] ∧ (∀ y ∈ e.word :: ws, Nm y) ∧ ws.length = ks.length ∧ ws.length ≤ 1 ∧ n < 4096 ∧ BK (some v) kd lo hi ∧ lo ≤ n ∧ n ≤ hi := by
  have nw := nm_word e
  have all : ∀ ws : List PySem.Str, (∀ y ∈ ws, y ∈ e.names) → ∀ y ∈ e.word :: ws, Nm y := fun ws h y hy => by
    rcases List.mem_cons.mp hy with rfl | hy
    · exact nw
    · exact hn y (h y hy)
  cases e with
  | num n =>
    have t : 2 ^ v ≤ 4096 := Nat.pow_le_pow_right (n := 2) (i := v) (j := 12) (by decide) hv
    have o : n < 2 ^ v := ok
    exact .inr ⟨[], "word", n, _, _, [], rfl, by decide, rfl, rfl, all [] (by simp), rfl, by simp, by omega, .word, Nat.zero_le _, by omega⟩
  | copy y => exact .inl ⟨[], [y], rfl, rfl, rfl, all [y] (fun _ h => h), rfl, by simp⟩
  | two o y z => exact .inl ⟨["name"], [y, z], rfl, rfl, rfl, all [y, z] (fun _ h => h), rfl, by simp⟩
  | pick c y z => exact .inl ⟨["name", "name"], [c, y, z], rfl, rfl, rfl, all [c, y, z] (fun _ h => h), rfl, by simp⟩
  | up y k =>
    have o : k ≤ 11 := ok
    exact .inr ⟨["name"], "shift", k, _, _, [y], rfl, by decide, rfl, rfl, all [y] (fun _ h => h), rfl, by simp, by omega, .shift, Nat.zero_le _, by omega⟩
  | down y k =>
    have o : k ≤ 11 := ok
    exact .inr ⟨["name"], "shift", k, _, _, [y], rfl, by decide, rfl, rfl, all [y] (fun _ h => h), rfl, by simp, by omega, .shift, Nat.zero_le _, by omega⟩
theorem cut1 {a : V} {l : List V} : cutV (a :: l) (some 1) none = l := by
  unfold cutV
  rw [show (1 : Int) = ((1 : Nat) : Int) from rfl, HT.sIx_nat, HT.sIx_none, List.length_cons, Nat.min_eq_left (by omega)]
  exact List.take_of_length_le (by simp)
theorem cut2 {a b : V} {l : List V} : cutV (a :: b :: l) (some 2) none = l := by
  unfold cutV
  rw [show (2 : Int) = ((2 : Nat) : Int) from rfl, HT.sIx_nat, HT.sIx_none, List.length_cons, List.length_cons, Nat.min_eq_left (by omega)]
  exact List.take_of_length_le (by simp)
theorem cutE {l : List V} {z : V} : cutV (l ++ [z]) none (some (-1)) = l := by
  unfold cutV
  rw [HT.sIx_none]
  simp only [HT.sIx, List.length_append, List.length_singleton, List.drop_zero]
  rw [if_pos (by decide), show ((-1 : Int) + ((l.length + 1 : Nat) : Int)).toNat - 0 = l.length by omega]
  exact List.take_left
theorem cut2E {a b z : V} {l : List V} : cutV (a :: b :: (l ++ [z])) (some 2) (some (-1)) = l := by
  unfold cutV
  rw [show (2 : Int) = ((2 : Nat) : Int) from rfl, HT.sIx_nat, List.length_cons, List.length_cons, Nat.min_eq_left (by omega)]
  simp only [HT.sIx, List.length_append, List.length_singleton]
  rw [if_pos (by decide), show ((-1 : Int) + ((l.length + 1 + 1 + 1 : Nat) : Int)).toNat - 2 = l.length by omega]
  exact List.take_left
def spSet (C : Addr) : Sp := fun vs H Q _ => ∃ (a : Ad) (ls : List (List PySem.Str)) (v k m b : Nat) (W : Addr) (x : PySem.Str) (e : Ex), vs = [.ref a.p, .ref W] ∧ H W = some (.lst ((("set" : PySem.Str) :: x :: e.words).map V.str)) ∧ Nm x ∧ (∀ y ∈ e.names, Nm y) ∧ e.ok v ∧ v ≤ 12 ∧ Rd C a ls (some v) k m b H ∧ b ≤ 5000 ∧
  ∀ (p q : Addr) H', Kept (At3 a) H H' → Rd C a ls (some v) k m (b + 10) H' → H' p = some (.tup [.str "set", .str x, .ref q]) → H' q = some (.tup e.vs) → Q (.ref p) H'
section
variable {P : Program} {w : World} {K : PySem.W.Frag} {mg : PySem.Str → Option Value} {base : Heap} {f fA fN fT C D CW : Addr} {fd fdA fdN fdT : FuncData}
theorem ok_inputs (F : FnM K "read_inputs" "Text.read_inputs" sReadInputs f fd) (T : TxC K mg C) (mT : Meth K C "take_line_of" fT) (GT : FnOk P w K mg base CX0 1 fT fdT ["self", "word"] (spTake C)) (bT : Binds K fdT ["self", "word"] []) (mA : Meth K C "are_names" fA) (GA : FnOk P w K mg base CX0 3 fA fdA ["self", "words"] (spAre C)) (bA : Binds K fdA ["self", "words"] []) (m_len : mg "len" = none) (m_tuple : mg "tuple" = none) {t4 : Tok} (g4 : mg "MOST_INPUTS" = some (.int 4 t4)) : FnOk P w K mg base CX0 4 f fd ["self"] (spIn C) := by
  refine F.ok (k := 3) scReadInputs (fun vs H Q E h => ?_) (fun cdv A outer s H vs Q E hr h => ?_)
  · obtain ⟨a, ls, v, k, m, b, xs, rfl, _⟩ := h
    rfl
  · obtain ⟨a, ls, v, k, m, b, xs, rfl, r, hl, few, nm, hb, q⟩ := h
    refine ⟨_, PSs.nox (pss_cons (ps_set (i := 1) scReadInputs.nd rfl (Or.inl rfl) (pe_meth (pv 0) T.cl mT (GT.mono (by decide)) hr bT .nil pass0 (pa_cons pe_str pa_nil)))
    (pss_cons (ps_if (PW.pt (pw_or (pt_cmpR op_gt (pe_callB call_len_seq (by rfl) m_len PySem.boot_len (pa_cons (pv 1) pa_nil)) (pe_op op_add (pe_glob (v := .int 4) (by rfl) g4 ⟨_, rfl⟩) pe_int) (nomark _)) (pw_or1 (pt_not (pt_val (pe_meth (pv 0) T.cl mA GA hr bA .nil pass0 (pa_cons (pv 1) pa_nil)))))))
      (pss_one ps_never)
      pss_nil)
    (pss_one (ps_ret (pe_tupleOf (by rfl) m_tuple (pe_slice sl_list (pv 1) (po_some pe_int) po_none)))))), ?_⟩
    refine ⟨.ref a.p, rfl, a.p, a.dx, _, rfl, r.o, rfl, a, ls, v, k, m, b, "in", xs, rfl, r, hl, fun W H1 k1 r1 eW => ?_⟩
    have hWp : W ≠ a.p := fun z => by rw [z, r1.o] at eW; cases eW
    have hWN : W ≠ a.N := fun z => by
      obtain ⟨_, n1, _⟩ := r1.n
      rw [z, n1] at eW; cases eW
    refine ⟨.ref W, rfl, W, _, rfl, .inl (SqL.of eW), 4, 1, rfl, rfl, _, _, rfl, rfl, _, rfl, ?_⟩
    rw [show decide _ = false from decide_eq_false (by rw [List.length_map, List.length_cons]; omega)]
    refine iteF ⟨.ref a.p, rfl, a.p, a.dx, _, rfl, r1.o, rfl, .ref W, rfl, a, ls, v, k + 1, m, b, W, "in" :: xs, rfl, eW, ?_, (by rw [List.length_cons]; omega), r1, hb, fun H2 k2 r2 => ⟨_, rfl, iteF ?_⟩⟩
    · intro y hy
      rcases List.mem_cons.mp hy with rfl | hy
      · exact nm_in
      · exact nm y hy
    have eW2 := k2.lst eW fun z => z.elim hWp hWN
    refine ⟨.ref W, rfl, 1, rfl, W, _, rfl, SqL.of eW2, fun p hp => .inl ⟨p, _, rfl, SqL.of upd_same, fun u hu2 => ?_⟩⟩
    rw [List.map_cons, cut1] at *
    have k3a : Kept None H2 (upd H2 p (.lst (xs.map V.str))) := Kept.refl.new hp
    have k3 : Kept None H2 (upd (upd H2 p (.lst (xs.map V.str))) u (.tup (xs.map V.str))) := k3a.new (k3a.free hu2)
    exact q u _ ((k1.trans k2).trans (k3.weak fun _ z => z.elim)) ((r2.stay k3).more (by rw [List.length_cons]; omega)) upd_same
theorem ok_set (F : FnM K "read_set" "Text.read_set" sReadSet f fd) (T : TxC K mg C) (B : Tab K w mg D CW) (mN : Meth K C "number_of" fN) (GN : FnOk P w K mg base CX0 4 fN fdN ["self", "word", "kind"] (spNumOf C)) (bN : Binds K fdN ["self", "word", "kind"] []) (mA : Meth K C "are_names" fA) (GA : FnOk P w K mg base CX0 3 fA fdA ["self", "words"] (spAre C)) (bA : Binds K fdA ["self", "words"] []) (m_len : mg "len" = none) (m_tuple : mg "tuple" = none) : FnOk P w K mg base CX0 5 f fd ["self", "words"] (spSet C) := by
  refine F.ok (k := 4) scReadSet (fun vs H Q E h => ?_) (fun cdv A outer s H vs Q E hr h => ?_)
  · obtain ⟨a, ls, v, k, m, b, W, x, e, rfl, _⟩ := h
    rfl
  · obtain ⟨a, ls, v, k, m, b, W, x, e, rfl, eW, nx, nms, ok, hv, r, hb, q⟩ := h
    have hu := hu_of hr
    refine ⟨_, PSs.nox (pss_cons (ps_set (i := 2) scReadSet.nd rfl (Or.inl rfl) (pe_ifExp (pt_cmpR op_gt (pe_callB call_len_seq (by rfl) m_len PySem.boot_len (pa_cons (pv 1) pa_nil)) pe_int (nomark _)) (pe_kget2 (pe_glob (v := .ref D) (by rfl) B.mD rfl) (pe_ix ix_list (pv 1) pe_int (fun _ _ => rfl)) (pe_tup pa_nil) ⟨rfl, rfl, rfl, rfl⟩) (pe_tup pa_nil)))
    (pss_cons (ps_if (PW.pt (pw_and (pt_truth (pv 2) (fun _ => rfl)) (pw_and1 (pt_cmpR op_eq (pe_callB call_len_seq (by rfl) m_len PySem.boot_len (pa_cons (pv 1) pa_nil)) (pe_op op_add (pe_callB call_len_seq (by rfl) m_len PySem.boot_len (pa_cons (pv 2) pa_nil)) pe_int) (nomark _)))))
      (pss_one (ps_if (pt_cmpR op_eq (pe_ix ix_tup (pv 2) (pe_un un_neg pe_int) (fun _ _ => rfl)) pe_str (nomark _))
        (pss_one (ps_if (pt_val (pe_meth (pv 0) T.cl mA (GA.mono (by decide)) hr bA .nil pass0 (pa_cons (pv 1) pa_nil)))
          (pss_one (ps_ret (pe_tup (pa_cons pe_str (pa_cons (pe_ix ix_list (pv 1) pe_int (fun _ _ => rfl)) (pa_cons (pe_tupleOf (by rfl) m_tuple (pe_slice sl_list (pv 1) (po_some pe_int) po_none)) pa_nil))))))
          pss_nil))
        (pss_cons (ps_set (i := 3) scReadSet.nd rfl (Or.inl rfl) (pe_meth (pv 0) T.cl mN GN hr bN .nil pass0 (pa_cons (pe_ix ix_list (pv 1) (pe_un un_neg pe_int) (fun _ _ => rfl)) (pa_cons (pe_ix ix_tup (pv 2) (pe_un un_neg pe_int) (fun _ _ => rfl)) pa_nil))))
        (pss_one (ps_if (PW.pt (pw_and (pt_cmpR op_notN (pv 3) pe_non (nomark _)) (pw_and1 (pt_val (pe_meth (pv 0) T.cl mA (GA.mono (by decide)) hr bA .nil pass0 (pa_cons (pe_slice sl_list (pv 1) po_none (po_some (pe_un un_neg pe_int))) pa_nil))))))
          (pss_one (ps_ret (pe_tup (pa_cons pe_str (pa_cons (pe_ix ix_list (pv 1) pe_int (fun _ _ => rfl)) (pa_cons (pe_tupleOf (by rfl) m_tuple (pe_op op_cat (pe_slice sl_list (pv 1) (po_some pe_int) (po_some (pe_un un_neg pe_int))) (pe_lst (pa_cons (pv 3) pa_nil)))) pa_nil))))))
          pss_nil)))))
      pss_nil)
    (pss_one ps_never))), ?_⟩
    have szl := sizeLine_eq
    have hWp : W ≠ a.p := fun z => by rw [z, r.o] at eW; cases eW
    have hWN : W ≠ a.N := fun z => by
      obtain ⟨_, n1, _⟩ := r.n
      rw [z, n1] at eW; cases eW
    have hW3 : ¬ At3 a W := fun z => z.elim hWp hWN
    obtain ⟨w2, hw2⟩ := Ex.words_eq e
    obtain ⟨T2, t1, t2⟩ := B.k e
    refine ⟨.ref W, rfl, W, _, rfl, .inl (SqL.of eW), _, 2, rfl, rfl, _, rfl, ?_⟩
    rw [show decide _ = true from decide_eq_true (by rw [hw2]; simp only [List.length_map, List.length_cons]; omega)]
    refine iteT ⟨D, rfl, B.d, .ref W, rfl, W, _, 2, .str e.word, rfl, rfl, SqL.of eW, (by rw [hw2]; exact atI_nat (j := 2) rfl), e.word, rfl, Nat.zero_le _, fun p0 hp0 => ?_⟩
    have k0 : Kept None H (upd H p0 (.tup [])) := Kept.refl.new hp0
    have r0 := r.stay k0
    replace eW := k0.lst eW (fun z => z)
    generalize upd H p0 (.tup []) = H0 at k0 r0 eW ⊢
    refine ⟨.ref T2, .ref T2, t1, rfl, ?_⟩
    have lW : ((("set" : PySem.Str) :: x :: e.words).map V.str).length = ((kinds e).map V.str).length + 3 := by
      cases e <;> rfl
    refine ⟨.ref T2, rfl, true, .inr (.inl ⟨_, t2 _, by cases e <;> rfl⟩), iteT ⟨.ref W, rfl, W, _, rfl, .inl (SqL.of eW), .ref T2, rfl, T2, _, rfl, .inr (t2 _), _, 3, rfl, rfl, rfl, _, rfl, ?_⟩⟩
    rw [show decide _ = true from decide_eq_true (by rw [lW]; rfl)]
    refine iteT ?_
    rcases ex_split e nms ok hv with ⟨ks, ws, e1, e2, e3, e4, e5, e6⟩ | ⟨ks, kd, n, lo, hi, ws, e1, e2, e3, e4, e5, e6, e7, e8, e9, e10, e11⟩
    · refine ⟨.ref T2, rfl, 1, rfl, T2, _, -1, .str "name", rfl, rfl, t2 _, ?_, ?_⟩
      · rw [e1, List.map_append]; exact atI_last _ _
      refine ⟨rfl, _, rfl, ite2 (fun _ => ?_) (fun z => absurd (decide_eq_true rfl) z)⟩
      have l2 : e.words.length ≤ 4 := by rw [e2, List.length_cons]; omega
      refine ⟨.ref a.p, rfl, a.p, a.dx, _, rfl, r0.o, rfl, .ref W, rfl, a, ls, some v, k, m, b, W, ("set" : PySem.Str) :: x :: e.words, rfl, eW, ?_, (by simp only [List.length_cons]; omega), r0, hb, fun H1 k1 r1 => ⟨_, rfl, iteT ?_⟩⟩
      · intro y hy
        rcases List.mem_cons.mp hy with rfl | hy
        · exact nm_set
        rcases List.mem_cons.mp hy with rfl | hy
        · exact nx
        · exact e4 y hy
      have eW1 := k1.lst eW hW3
      refine ⟨.ref W, rfl, W, _, 1, .str x, rfl, rfl, SqL.of eW1, atI_nat (j := 1) rfl, .ref W, rfl, 2, rfl, W, _, rfl, SqL.of eW1, fun l hl => .inl ⟨l, _, rfl, SqL.of upd_same, fun u hu2 => ⟨(show 3 ≤ sizeLine by decide), fun p hp => ?_⟩⟩⟩
      rw [List.map_cons, List.map_cons, cut2, ← e3] at *
      have ka : Kept None H1 (upd H1 l (.lst e.vs)) := Kept.refl.new hl
      have kb := ka.new (ka.free hu2) (o := .tup e.vs)
      have kc := kb.new (kb.free hp) (o := .tup [.str "set", .str x, .ref u])
      refine q p u _ ((k0.weak fun _ z => z.elim).trans (k1.trans (kc.weak fun _ z => z.elim))) ((r1.stay kc).more (by simp only [List.length_cons]; omega)) upd_same ?_
      rw [upd_ne (ne_of_none upd_same hp)]
      exact upd_same
    · refine ⟨.ref T2, rfl, 1, rfl, T2, _, -1, .str kd, rfl, rfl, t2 _, ?_, ?_⟩
      · rw [e1, List.map_append]; exact atI_last _ _
      refine ⟨rfl, _, rfl, ite2 (fun z => absurd (V.str.inj (of_decide_eq_true z)) e2) (fun _ => ?_)⟩
      have sW : ((("set" : PySem.Str) :: x :: e.words).map V.str) = .str "set" :: .str x :: ((e.word :: ws).map V.str ++ [.str (dec n)]) := by rw [e3]; simp
      rw [sW] at eW lW
      refine ⟨.ref a.p, rfl, a.p, a.dx, _, rfl, r0.o, rfl, .ref W, rfl, 1, rfl, W, _, -1, .str (dec n), rfl, rfl, SqL.of eW, ?_, .ref T2, rfl, 1, rfl, T2, _, -1, .str kd, rfl, rfl, t2 _, ?_, a, ls, some v, k, m, b, n, lo, hi, kd, rfl, e8, r0, e9, e10, e11, fun H1 k1 => ?_⟩
      · exact atI_last (.str "set" :: .str x :: (e.word :: ws).map V.str) _
      · rw [e1, List.map_append]; exact atI_last _ _
      have r1 := r0.stay k1
      have eW1 := k1.lst eW (fun z => z)
      refine ⟨.int (n : Int), rfl, rfl, _, rfl, iteT ?_⟩
      refine ⟨.ref a.p, rfl, a.p, a.dx, _, rfl, r1.o, rfl, .ref W, rfl, 1, rfl, -1, rfl, W, _, rfl, SqL.of eW1, fun l hl => ?_⟩
      have cE : cutV (.str "set" :: .str x :: ((e.word :: ws).map V.str ++ [.str (dec n)])) none (some (-1)) = (("set" : PySem.Str) :: x :: e.word :: ws).map V.str := cutE (l := .str "set" :: .str x :: (e.word :: ws).map V.str)
      rw [cE]
      have ka : Kept None H1 (upd H1 l (.lst ((("set" : PySem.Str) :: x :: e.word :: ws).map V.str))) := Kept.refl.new hl
      have ra := r1.stay ka
      have eL : upd H1 l (.lst ((("set" : PySem.Str) :: x :: e.word :: ws).map V.str)) l = some (.lst ((("set" : PySem.Str) :: x :: e.word :: ws).map V.str)) := upd_same
      have eW2 := ka.lst eW1 (fun z => z)
      have ka0 := ka
      generalize upd H1 l (.lst ((("set" : PySem.Str) :: x :: e.word :: ws).map V.str)) = H2 at ka ra eL eW2 ⊢
      refine ⟨a, ls, some v, k, m, b, l, ("set" : PySem.Str) :: x :: e.word :: ws, rfl, eL, ?_, (by simp only [List.length_cons]; omega), ra, hb, fun H3 k3 r3 => ⟨_, rfl, iteT ?_⟩⟩
      · intro y hy
        rcases List.mem_cons.mp hy with rfl | hy
        · exact nm_set
        rcases List.mem_cons.mp hy with rfl | hy
        · exact nx
        · exact e5 y hy
      have eW3 := k3.lst eW2 hW3
      refine ⟨.ref W, rfl, W, _, 1, .str x, rfl, rfl, SqL.of eW3, atI_nat (j := 1) rfl, .ref W, rfl, 2, rfl, 1, rfl, -1, rfl, W, _, rfl, SqL.of eW3, fun l1 hl1 => ?_⟩
      rw [show cutV (.str "set" :: .str x :: ((e.word :: ws).map V.str ++ [.str (dec n)])) (some 2) (some (-1)) = (e.word :: ws).map V.str from cut2E]
      have kb : Kept None H3 (upd H3 l1 (.lst ((e.word :: ws).map V.str))) := Kept.refl.new hl1
      refine ⟨.int (n : Int), rfl, (show 1 ≤ sizeLine by decide), fun l2 hl2 => ?_⟩
      have e1a : upd (upd H3 l1 (.lst ((e.word :: ws).map V.str))) l2 (.lst [.int (n : Int)]) l1 = some (.lst ((e.word :: ws).map V.str)) := by rw [upd_ne (ne_of_none upd_same hl2)]; exact upd_same
      have kc := kb.new (kb.free hl2) (o := .lst [.int (n : Int)])
      refine ⟨l1, l2, _, _, rfl, rfl, e1a, upd_same, (by simp only [List.length_map, List.length_cons, List.length_nil]; omega), fun l3 hl3 => .inl ⟨l3, _, rfl, SqL.of upd_same, fun u hu2 => ⟨(show 3 ≤ sizeLine by decide), fun p hp => ?_⟩⟩⟩
      have kd1 := kc.new (kc.free hl3) (o := .lst ((e.word :: ws).map V.str ++ [.int (n : Int)]))
      have ke := kd1.new (kd1.free hu2) (o := .tup ((e.word :: ws).map V.str ++ [.int (n : Int)]))
      have kf := ke.new (ke.free hp) (o := .tup [.str "set", .str x, .ref u])
      refine q p u _ ((k0.weak fun _ z => z.elim).trans ((k1.weak fun _ z => z.elim).trans ((ka.weak fun _ z => z.elim).trans (k3.trans (kf.weak fun _ z => z.elim))))) ((r3.stay kf).more (by simp only [List.length_cons]; omega)) upd_same ?_
      rw [upd_ne (ne_of_none upd_same hp), e4]
      exact upd_same
end
end K9

set_option Elab.async false
set_option linter.all false
set_option maxRecDepth 100000
set_option maxHeartbeats 4000000
namespace K9
open PySem PySem.Spec PyProof.Rows L2
/-! ### numbers, names, sorts: whichever they are -/
def optV : Option Nat → V
  | some n => .int (n : Int)
  | none => .non
inductive SoK (v : Option Nat) : PySem.Str → So → Prop
  | name : SoK v "name" .name
  | expr : SoK v "expr" .expr
  | num {kind : PySem.Str} {lo hi : Nat} (h : BK v kind lo hi) : SoK v kind (.num lo hi)
theorem BK.ne {v : Option Nat} {kind : PySem.Str} {lo hi : Nat} (h : BK v kind lo hi) : kind ≠ "name" ∧ kind ≠ "expr" := by
  cases h <;> exact ⟨by decide, by decide⟩
def spNumO (C : Addr) : Sp := fun vs H Q _ => ∃ (a : Ad) (ls : List (List PySem.Str)) (v : Option Nat) (k m b lo hi : Nat) (z kind : PySem.Str), vs = [.ref a.p, .str z, .str kind] ∧ z.length ≤ sizeLine ∧ Rd C a ls v k m b H ∧ BK v kind lo hi ∧ ∀ H', Kept None H H' → Q (optV (numW lo hi z)) H'
def spAll (C : Addr) : Sp := fun vs H Q _ => ∃ (a : Ad) (ls : List (List PySem.Str)) (v : Option Nat) (k m b : Nat) (W : Addr) (ws : List PySem.Str), vs = [.ref a.p, .ref W] ∧ H W = some (.lst (ws.map V.str)) ∧ (∀ x ∈ ws, x.length ≤ sizeLine) ∧ Rd C a ls v k m b H ∧ b + ws.length ≤ 2000000 ∧ ∀ H', Kept (At3 a) H H' → Rd C a ls v k m (b + ws.length) H' → Q (.bl (ws.all fun x => nameB (.str x))) H'
def spFits (C : Addr) : Sp := fun vs H Q _ => ∃ (a : Ad) (ls : List (List PySem.Str)) (v : Option Nat) (k m b : Nat) (z kind : PySem.Str) (s : So), vs = [.ref a.p, .str z, .str kind] ∧ z.length ≤ sizeLine ∧ Rd C a ls v k m b H ∧ SoK v kind s ∧ ∀ H', Kept None H H' → Q (.bl (s.fits z)) H'
abbrev sFits : Stmt := inClass (top 30) 14
theorem scFits : FnScope ["self", "word", "kind"] ["self", "word", "kind"] (defScope sFits) := ⟨rfl, rfl, rfl, by decide +kernel, rfl, by decide +kernel, by decide +kernel⟩
theorem valV_mem {κ : Type} [DecidableEq κ] {kvs : List (κ × V)} {k : κ} {u : V} (h : valV kvs k = some u) : ∃ q ∈ kvs, q.1 = k := by
  unfold valV at h
  obtain ⟨q, hq, _⟩ := Option.map_eq_some_iff.mp h
  exact ⟨q, List.mem_of_find?_eq_some hq, of_decide_eq_true (List.find?_some (p := fun kv : κ × V => decide (kv.1 = k)) hq)⟩
section
variable {P : Program} {w : World} {K : PySem.W.Frag} {mg : PySem.Str → Option Value} {base : Heap} {f fN fO C D CW : Addr} {fd fdN fdO : FuncData}
theorem ok_numo (F : FnM K "number_of" "Text.number_of" sNumberOf f fd) (T : TxC K mg C) (GN : FnOk P w K mg base CX0 3 fN fdN ["word"] spNum) (bN : Binds K fdN ["word"] []) (kN : PySem.W.keepIn K (.ref fN) = true) (gN : mg "number_in" = some (.ref fN)) : FnOk P w K mg base CX0 4 f fd ["self", "word", "kind"] (spNumO C) := by
  refine F.ok (k := 3) scNumberOf (fun vs H Q E h => ?_) (fun cdv A outer s H vs Q E hr h => ?_)
  · obtain ⟨a, ls, v, k, m, b, lo, hi, z, kind, rfl, _⟩ := h
    rfl
  · obtain ⟨a, ls, v, k, m, b, lo, hi, z, kind, rfl, hz, r, bk, q⟩ := h
    have hu := hu_of hr
    refine ⟨_, PSs.nox (pss_cons (ps_set (i := 3) scNumberOf.nd rfl (Or.inl rfl) (pe_call GN hr (by rfl) gN kN bN .nil pass0 (pa_cons (pv 1) pa_nil)))
    (pss_cons (ps_asg (pe_dget hu (pe_fld (pv 0) rfl) (pv 2) (fun _ _ => rfl)) (pg_tup rfl (pgs_cons (pg_name (i := 4) scNumberOf.nd rfl (Or.inl rfl)) (pgs_cons (pg_name (i := 5) scNumberOf.nd rfl (Or.inl rfl)) pgs_nil))))
    (pss_one (ps_ret (pe_ifExp (PW.pt (pw_and (pt_cmpR op_notN (pv 3) pe_non (nomark _)) (pw_and1 (pt_chain op_le op_le (pv 4) (pv 3) (pv 5))))) (pv 3) pe_non))))), ?_⟩
    refine ⟨.str z, rfl, z, rfl, hz, fun H1 k1 => ?_⟩
    have r1 := r.stay k1
    obtain ⟨bvs, b1, b2⟩ := r1.bd
    obtain ⟨t, t1, t2⟩ := b2 kind lo hi bk
    have dg := DGet.k (k := (Sum.inr kind : Key)) b1
    rw [t1] at dg
    rcases numV_cases z with ⟨i, e⟩ | e
    · rw [e]
      have en := numW_int (lo := lo) (hi := hi) e
      refine ⟨.ref a.p, rfl, a.p, C, a.dx, _, _, rfl, r1.o, T.cl, T.nB, f_B, .str kind, rfl, a.B, .ref t, rfl, dg, ?_⟩
      refine ⟨t, _, rfl, SqT.of t2, rfl, .int (lo : Int), [.int (hi : Int)], rfl, .int (hi : Int), [], rfl, rfl, ?_⟩
      refine ⟨.int i, rfl, rfl, _, rfl, iteT ?_⟩
      refine ⟨.int (lo : Int), rfl, .int i, rfl, lo, i, rfl, rfl, _, rfl, ite2 (fun c1 => ?_) (fun c1 => ?_)⟩
      · refine ⟨.int (hi : Int), rfl, i, hi, rfl, rfl, _, rfl, ite2 (fun c2 => ?_) (fun c2 => ?_)⟩
        · have d1 := of_decide_eq_true c1
          have d2 := of_decide_eq_true c2
          rw [en, if_pos ⟨d1, d2⟩] at q
          refine ⟨.int i, rfl, ?_⟩
          have q2 := q H1 k1
          rw [optV, Int.toNat_of_nonneg (by omega)] at q2
          exact q2
        · rw [en, if_neg (fun y => c2 (decide_eq_true y.2))] at q
          exact q H1 k1
      · rw [en, if_neg (fun y => c1 (decide_eq_true y.1))] at q
        exact ⟨_, rfl, iteF (q H1 k1)⟩
    · rw [e]
      rw [numW_non (lo := lo) (hi := hi) e] at q
      refine ⟨.ref a.p, rfl, a.p, C, a.dx, _, _, rfl, r1.o, T.cl, T.nB, f_B, .str kind, rfl, a.B, .ref t, rfl, dg, ?_⟩
      refine ⟨t, _, rfl, SqT.of t2, rfl, .int (lo : Int), [.int (hi : Int)], rfl, .int (hi : Int), [], rfl, rfl, ?_⟩
      refine ⟨.non, rfl, rfl, _, rfl, iteF ?_⟩
      exact q H1 k1
theorem ok_all (F : FnM K "are_names" "Text.are_names" sAreNames f fd) (T : TxC K mg C) (GN : FnOk P w K mg base CX0 2 fN fdN ["thing"] (spName K)) (bN : Binds K fdN ["thing"] []) (kN : PySem.W.keepIn K (.ref fN) = true) (gN : mg "is_name" = some (.ref fN)) : FnOk P w K mg base CX0 3 f fd ["self", "words"] (spAll C) := by
  refine F.ok (k := 2) scAreNames (fun vs H Q E h => ?_) (fun cdv A outer s H vs Q E hr h => ?_)
  · obtain ⟨a, ls, v, k, m, b, W, ws, rfl, _⟩ := h
    rfl
  · obtain ⟨a, ls, v, k, m, b, W, ws, rfl, hW, sz, r, hb, q⟩ := h
    have hu := hu_of hr
    refine ⟨_, PSs.nox (pss_cons (ps_set (i := 2) scAreNames.nd rfl (Or.inl rfl) (pe_fld (pv 0) rfl))
    (pss_cons (ps_for PassesOwn.never rfl (pi_list (pv 1)) (pg_name (i := 3) scAreNames.nd rfl (Or.inl rfl))
      (pss_one (ps_if (pt_cmp (pc_dnotin hu (pv 3) (pv 2)))
        (pss_cons (ps_if (pt_not (pt_val (pe_call GN hr (by rfl) gN kN bN .nil pass0 (pa_cons (pv 3) pa_nil))))
          (pss_one (ps_ret pe_bl))
          pss_nil)
        (pss_one (ps_dput hu (pv 2) (pv 3) pe_bl rfl)))
        pss_nil)))
    (pss_one (ps_ret pe_bl)))), ?_⟩
    have hWp : W ≠ a.p := fun z => by rw [z, r.o] at hW; cases hW
    have hWN : W ≠ a.N := fun z => by
      obtain ⟨_, n1, _⟩ := r.n
      rw [z, n1] at hW; cases hW
    refine ⟨.ref a.p, rfl, a.p, C, a.dx, _, _, rfl, r.o, T.cl, T.nN, f_N, ?_⟩
    refine ⟨.ref W, rfl, W, rfl, ⟨_, SqL.of hW⟩, ?_⟩
    refine for_list (K := K) (a := W) (xs := ws.map V.str) (fun i σ H' => (∃ x3, σ = [some (.ref a.p), some (.ref W), some (.ref a.N), x3]) ∧ Kept (At3 a) H H' ∧ Rd C a ls v k m (b + i) H' ∧ (ws.take i).all (fun x => nameB (.str x)) = true) ⟨⟨none, rfl⟩, Kept.refl, r, rfl⟩ (fun i σ H' _ h => ?_) (fun i x σ H' hx h => ?_) (fun σ H' h => ?_)
    · obtain ⟨_, k1, _⟩ := h
      exact SqL.of (k1.lst hW fun z => z.elim hWp hWN)
    · obtain ⟨⟨x3, rfl⟩, k1, r1, al⟩ := h
      rw [List.getElem?_map] at hx
      obtain ⟨z, hz, rfl⟩ := Option.map_eq_some_iff.mp hx
      have hi : i < ws.length := (List.getElem?_eq_some_iff.mp hz).1
      have tk : ws.take (i + 1) = ws.take i ++ [z] := by rw [List.take_add_one, hz]; rfl
      have al2 : nameB (.str z) = true → (ws.take (i + 1)).all (fun x => nameB (.str x)) = true := fun nz => by
        rw [tk, List.all_append, al]
        simp [nz]
      obtain ⟨kvs, n1, n2, n3⟩ := r1.n
      refine ⟨.str z, rfl, .ref a.N, rfl, a.N, _, rfl, DGet.k (k := (Sum.inr z : Key)) n1, _, rfl, ?_⟩
      cases hv : valV kvs (Sum.inr z : Key) with
      | some u =>
        have nz : nameB (.str z) = true := by
          obtain ⟨q0, hq0, e0⟩ := valV_mem hv
          obtain ⟨x, ex, nx⟩ := n2 q0 hq0
          rw [e0] at ex
          rw [Sum.inr.inj ex]
          exact nx
        exact iteF ⟨⟨_, rfl⟩, k1, r1.more (by omega), al2 nz⟩
      | none =>
        refine iteT ⟨.str z, rfl, .str z, "str", rfl, .str z, fun z' e => by cases e; exact sz z (List.mem_of_getElem? hz), fun H2 k2 => ⟨_, rfl, ?_⟩⟩
        have k3 : Kept (At3 a) H H2 := k1.trans (k2.weak fun _ z => z.elim)
        have r2 := r1.stay k2
        cases nz : nameB (.str z) with
        | false =>
          refine iteT ?_
          have hf : ws.all (fun x => nameB (.str x)) = false := List.all_eq_false.mpr ⟨z, List.mem_of_getElem? hz, by rw [nz]; decide⟩
          rw [hf] at q
          exact q H2 k3 (r2.more (by omega))
        | true =>
          have n1' := k2.dK n1 fun z => z
          refine iteF ⟨.ref a.N, rfl, .str z, rfl, a.N, _, rfl, DPut.k (k := (Sum.inr z : Key)) n1' (by rw [sizeLine_eq]; omega), ?_⟩
          exact ⟨⟨_, rfl⟩, k3.upd (.inr rfl), r2.name nz n1' n2 n3, al2 nz⟩
    · obtain ⟨_, k1, r1, al⟩ := h
      rw [List.length_map] at r1
      rw [List.length_map, List.take_length] at al
      rw [al] at q
      exact q H' k1 r1
theorem ok_fits (F : FnM K "fits" "Text.fits" sFits f fd) (T : TxC K mg C) (B : Tab K w mg D CW) (hin : ∀ z : PySem.Str, ∃ r, PySem.W.nsIn K D z = some r ∧ r.isSome = exprB z) (mO : Meth K C "number_of" fO) (GO : FnOk P w K mg base CX0 4 fO fdO ["self", "word", "kind"] (spNumO C)) (bO : Binds K fdO ["self", "word", "kind"] [])
    (GN : FnOk P w K mg base CX0 2 fN fdN ["thing"] (spName K)) (bN : Binds K fdN ["thing"] []) (kN : PySem.W.keepIn K (.ref fN) = true) (gN : mg "is_name" = some (.ref fN)) : FnOk P w K mg base CX0 5 f fd ["self", "word", "kind"] (spFits C) := by
  refine F.ok (k := 4) scFits (fun vs H Q E h => ?_) (fun cdv A outer s H vs Q E hr h => ?_)
  · obtain ⟨a, ls, v, k, m, b, z, kind, s, rfl, _⟩ := h
    rfl
  · obtain ⟨a, ls, v, k, m, b, z, kind, so, rfl, hz, r, sk, q⟩ := h
    obtain ⟨es, n, KD⟩ := B.d
    refine ⟨_, PSs.nox (pss_cons (ps_if (pt_cmpR op_eq (pv 2) pe_str (nomark _))
      (pss_one (ps_ret (pe_call (GN.mono (by decide)) hr (by rfl) gN kN bN .nil pass0 (pa_cons (pv 1) pa_nil))))
      pss_nil)
    (pss_cons (ps_if (pt_cmpR op_eq (pv 2) pe_str (nomark _))
      (pss_one (ps_ret (pe_cmpR (op_in_kd KD) (pv 1) (pe_glob (v := .ref D) (by rfl) B.mD rfl) (by rfl))))
      pss_nil)
    (pss_one (ps_ret (pe_cmpR op_notN (pe_meth (pv 0) T.cl mO GO hr bO .nil pass0 (pa_cons (pv 1) (pa_cons (pv 2) pa_nil))) pe_non (nomark _)))))), ?_⟩
    cases sk with
    | name =>
      refine ⟨.str "name", rfl, rfl, _, rfl, iteT ?_⟩
      exact ⟨.str z, rfl, .str z, "str", rfl, .str z, fun z' e => by cases e; exact hz, fun H2 k2 => q H2 k2⟩
    | expr =>
      refine ⟨.str "expr", rfl, rfl, _, rfl, iteF ?_⟩
      refine ⟨.str "expr", rfl, rfl, _, rfl, iteT ?_⟩
      obtain ⟨rr, e1, e2⟩ := hin z
      refine ⟨.str z, rfl, z, rr, rfl, rfl, e1, ?_⟩
      rw [e2]
      exact q H Kept.refl
    | num h =>
      obtain ⟨ne1, ne2⟩ := h.ne
      refine ⟨.str kind, rfl, rfl, _, rfl, ite2 (fun y => absurd (V.str.inj (of_decide_eq_true y)) ne1) (fun _ => ?_)⟩
      refine ⟨.str kind, rfl, rfl, _, rfl, ite2 (fun y => absurd (V.str.inj (of_decide_eq_true y)) ne2) (fun _ => ?_)⟩
      refine ⟨.ref a.p, rfl, a.p, a.dx, _, rfl, r.o, rfl, .str z, rfl, .str kind, rfl, a, ls, v, k, m, b, _, _, z, kind, rfl, hz, r, h, fun H1 k1 => ?_⟩
      refine ⟨rfl, ?_⟩
      have q2 := q H1 k1
      show Q _ _
      cases e : numW _ _ z with
      | none => rw [So.fits, e] at q2; exact q2
      | some n => rw [So.fits, e] at q2; exact q2
end
end K9

set_option Elab.async false
set_option linter.all false
set_option maxRecDepth 100000
set_option maxHeartbeats 4000000
namespace K9
open PySem PySem.Spec PyProof.Rows L2
/-! ### refused: the line and the word -/
def lsOf (A : List (List PySem.Str)) : List (List PySem.Str) := A.filter fun l => !l.isEmpty
structure Rf (C : Addr) (a : Ad) (A : List (List PySem.Str)) (v : Option Nat) (k m b : Nat) (H : Hp) : Prop where
  rd : Rd C a (lsOf A) v k m b H
  al : ∃ as : List Addr, H a.A = some (.lst (as.map V.ref)) ∧ as.length = A.length ∧ ∀ (i : Nat) (t : Addr) (l : List PySem.Str), as[i]? = some t → A[i]? = some l → H t = some (.lst (l.map V.str))
structure Sz (A : List (List PySem.Str)) : Prop where
  many : A.length ≤ 1000000
  all : ((lsOf A).map List.length).sum ≤ 1000000
  long : ∀ l ∈ A, ∀ x ∈ l, x.length ≤ sizeLine
theorem Rd.nl {C : Addr} {a : Ad} {ls : List (List PySem.Str)} {v : Option Nat} {k m b : Nat} {H : Hp} (r : Rd C a ls v k m b H) (p : Addr) (ys : List V) (h : H p = some (.lst ys)) : ¬ At3 a p := by
  rintro (z | z)
  · rw [z, r.o] at h; cases h
  · obtain ⟨_, n1, _⟩ := r.n
    rw [z, n1] at h; cases h
theorem Rf.keep {C : Addr} {a : Ad} {A : List (List PySem.Str)} {v v' : Option Nat} {k m b k' m' b' : Nat} {H H' : Hp} (r : Rf C a A v k m b H) (kp : Kept (At3 a) H H') (r' : Rd C a (lsOf A) v' k' m' b' H') : Rf C a A v' k' m' b' H' := by
  obtain ⟨rd, as, a1, a2, a3⟩ := r
  exact ⟨r', as, kp.lst a1 (rd.nl _ _ a1), a2, fun i t l h1 h2 => kp.lst (a3 i t l h1 h2) (rd.nl _ _ (a3 i t l h1 h2))⟩
theorem Rf.stay {C : Addr} {a : Ad} {A : List (List PySem.Str)} {v : Option Nat} {k m b : Nat} {H H' : Hp} (r : Rf C a A v k m b H) (kp : Kept None H H') : Rf C a A v k m b H' := r.keep (kp.weak fun _ z => z.elim) (r.rd.stay kp)
theorem Rf.more {C : Addr} {a : Ad} {A : List (List PySem.Str)} {v : Option Nat} {k m b b' : Nat} {H : Hp} (r : Rf C a A v k m b H) (h : b ≤ b') : Rf C a A v k m b' H := ⟨r.rd.more h, r.al⟩
/-- raised: BadText of that line and that word -/
def Rz (CB : Addr) (a : Ad) (H : Hp) (E : XK) (ln wd : Nat) : Prop := ∀ (d : Addr) (H' : Hp), Kept (At3 a) H H' → H' d = some (.xd [("word", .int (wd : Int)), ("line", .int (ln : Int))]) → E (.ref CB) (some d) H'
theorem Rz.of {CB : Addr} {a : Ad} {H H1 : Hp} {E : XK} {ln wd : Nat} (z : Rz CB a H E ln wd) (k : Kept (At3 a) H H1) : Rz CB a H1 E ln wd := fun d H' k' e => z d H' (k.trans k') e
theorem Rz.of0 {CB : Addr} {a : Ad} {H H1 : Hp} {E : XK} {ln wd : Nat} (z : Rz CB a H E ln wd) (k : Kept None H H1) : Rz CB a H1 E ln wd := z.of (k.weak fun _ y => y.elim)
theorem numb_app : ∀ (i : Nat) (A : List (List PySem.Str)) (l : List PySem.Str), numb i (A ++ [l]) = if l = [] then numb i A else numb i A ++ [(i + A.length, l)]
  | i, [], l => by
    show numb i [l] = _
    unfold numb
    by_cases h : l = []
    · rw [if_pos h, if_pos h]; rfl
    · rw [if_neg h, if_neg h]; rfl
  | i, x :: A, l => by
    show numb i (x :: (A ++ [l])) = _
    unfold numb
    rw [numb_app (i + 1) A l, List.length_cons, show i + (A.length + 1) = i + 1 + A.length by omega]
    by_cases hx : x = []
    · rw [if_pos hx, if_pos hx]
    · rw [if_neg hx, if_neg hx]
      by_cases h : l = []
      · rw [if_pos h, if_pos h]
      · rw [if_neg h, if_neg h]; rfl
theorem numb_at {A : List (List PySem.Str)} {k n : Nat} {ws : List PySem.Str} (h : (numb 1 A)[k]? = some (n, ws)) : (lsOf A)[k]? = some ws := by
  unfold lsOf
  rw [← numb_snd 1 A, List.getElem?_map, h]
  rfl
theorem numb_ls (A : List (List PySem.Str)) : (numb 1 A).length = (lsOf A).length := by
  unfold lsOf
  rw [← numb_snd 1 A, List.length_map]
abbrev sRefuse : Stmt := inClass (top 30) 15
theorem scRefuse : FnScope ["self", "word", "numbers", "at", "words"] ["self", "word"] (defScope sRefuse) := ⟨rfl, rfl, rfl, by decide +kernel, rfl, by decide +kernel, by decide +kernel⟩
def spRefuse (C CB : Addr) : Sp := fun vs H Q E => ∃ (a : Ad) (A : List (List PySem.Str)) (v : Option Nat) (k m b wd ln : Nat) (ws : List PySem.Str), vs = [.ref a.p, .int (wd : Int)] ∧ Rf C a A v (k + 1) m b H ∧ Sz A ∧ (numb 1 A)[k]? = some (ln, ws) ∧ wd ≤ 100000000 ∧ Rz CB a H E ln wd
/-- BadText, as it stands -/
structure BtC (P : Program) (w : World) (K : PySem.W.Frag) (mg : PySem.Str → Option Value) (base : Heap) (CB fB : Addr) (fdB : FuncData) : Prop where
  c : MkC K CB fB
  g : mg "BadText" = some (.ref CB)
  G : FnOk P w K mg base CX0 1 fB fdB ["self", "line", "word"] (spIni K CB "line" "word")
  b : Binds K fdB ["self", "line", "word"] []
theorem small_nat {n : Nat} (h : n ≤ 100000000) : Small (.int (n : Int)) := .inr ⟨_, rfl, by omega, by omega⟩
section
variable {P : Program} {w : World} {K : PySem.W.Frag} {mg : PySem.Str → Option Value} {base : Heap} {f fB C CB D CW : Addr} {fd fdB : FuncData}
theorem gone_rz {H : Hp} {E : XK} {ln wd : Nat} {a : Ad} (hl : ln ≤ 100000000) (hw : wd ≤ 100000000) (z : Rz CB a H E ln wd) :
    ∀ x, H x = none → spIni K CB "line" "word" [.ref x, .int (ln : Int), .int (wd : Int)] (upd H x (exo x CB none)) (fun v H2 => v = .non ∧ ∃ (d : Addr) (fs : List (PySem.Str × V)), H2 x = some (exo x CB (some d)) ∧ H2 d = some (exd d fs) ∧ H d = none ∧ E (.ref CB) (some d) (upd (del H2 x) d (.xd fs))) (fun _ _ _ => False) :=
  made_gone (R := fun x H2 d fs => E (.ref CB) (some d) (upd (del H2 x) d (.xd fs))) (small_nat hl) (small_nat hw) fun x d H2 H' e k hd => by
    rw [← e]
    exact z d H' (k.weak fun _ y => y.elim) hd
theorem ok_refuse (F : FnM K "refuse" "Text.refuse" sRefuse f fd) (T : TxC K mg C) (M : BtC P w K mg base CB fB fdB) (m_enumerate : mg "enumerate" = none) : FnOk P w K mg base (L2.CX P w) 3 f fd ["self", "word"] (spRefuse C CB) := by
  refine F.ok (k := 2) scRefuse (fun vs H Q E h => ?_) (fun cdv A outer s H vs Q E hr h => ?_)
  · obtain ⟨a, A, v, k, m, b, wd, ln, ws, rfl, _⟩ := h
    rfl
  · obtain ⟨a, A, v, k, m, b, wd, ln, ws, rfl, r, sz, hn, hw, z⟩ := h
    refine ⟨_, pss_cons (ps_setLc (i := 2) (own := [("at", 3), ("words", 4)]) (g := gTup K 2 (gCons (gName 3) (gCons (gName 4) gNil))) (tt := tTrV K 4) (te := tOp rAddN (tVar 3) (tC (.int 1))) rfl scRefuse.nd rfl rfl (sw_true rfl rfl rfl (by decide +kernel)) (pi_enum (by rfl) m_enumerate (pa_cons (pe_fld (pv 0) rfl) pa_nil)) (blkOk_by (own := [("at", 3), ("words", 4)]) (N := ["self", "word", "numbers", "at", "words"]) (sc := defScope sRefuse) (by decide +kernel)) (by exact (fun _ _ _ _ _ => (pg_tup rfl (pgs_cons (pg_name (i := 3) scRefuse.nd rfl (Or.inl rfl)) (pgs_cons (pg_name (i := 4) scRefuse.nd rfl (Or.inl rfl)) pgs_nil))))) (by exact (fun _ _ _ _ _ => (pts_one (pt_truth (pv 4) (by intro _; rfl))))) (by exact (fun _ _ _ _ _ => (pe_op n_add (pv 3) pe_int))))
    (pss_one (ps_raise rfl (takes_of rfl rfl rfl rfl) (pmk_oex M.c.t M.c.i M.c.f M.G hr M.b .nil pass0 (by rfl) M.g (pa_cons (pe_ix ix_list (pv 2) (pe_op op_sub (pe_fld (pv 0) rfl) pe_int) (fun _ _ => rfl)) (pa_cons (pv 1) pa_nil))))), ?_⟩
    obtain ⟨as, a1, a2, a3⟩ := r.al
    refine ⟨.ref a.p, rfl, a.p, C, a.dx, _, _, rfl, r.rd.o, T.cl, T.nA, f_A, a.A, _, rfl, SqL.of a1, fun D hD => ?_⟩
    have szl := sizeLine_eq
    have hm := sz.many
    refine lc_it (walk_enum (K := K) (a := a.A) (xs := as.map V.ref)) (fun i H' => Kept None H H' ∧ H' D = some (.lst ((numb 1 (A.take i)).map fun q => V.int (q.1 : Int)))) ⟨Kept.refl.new hD, upd_same⟩ (fun i H' _ h => SqL.of (h.1.lst a1 (fun z => z))) (fun i x H' H2 hi h y => ?_) (fun H' h => ?_)
    · obtain ⟨k1, eD⟩ := h
      obtain ⟨T1, a', x', rfl, hT, rfl, ea, ex⟩ := y
      cases ea
      rw [List.length_map] at hi
      have ex : (as.map V.ref)[i]? = some x' := ex
      rw [List.getElem?_map, List.getElem?_eq_getElem hi] at ex
      cases ex
      have hi2 : i < A.length := by omega
      have hl := List.getElem?_eq_getElem hi2
      have et := a3 i _ _ (List.getElem?_eq_getElem hi) hl
      generalize A[i] = l at hl et
      have tk : A.take (i + 1) = A.take i ++ [l] := by rw [List.take_add_one, hl]; rfl
      have k2 : Kept None H' (upd H' T1 (.tup [.int (i : Int), .ref as[i]])) := Kept.refl.new hT
      refine ⟨T1, _, rfl, SqT.of upd_same, rfl, .int (i : Int), [.ref as[i]], rfl, .ref as[i], [], rfl, rfl, rfl, .ref as[i], rfl, _, .inl ⟨_, SqL.of ((k1.trans k2).lst et (fun z => z)), rfl⟩, ?_⟩
      have em : (l.map V.str).isEmpty = l.isEmpty := by cases l <;> rfl
      rw [em, tk, numb_app]
      have TD : D ≠ T1 := fun z => by rw [← z, eD] at hT; cases hT
      cases l with
      | nil =>
        refine iteF ⟨k1.trans k2, ?_⟩
        rw [if_pos rfl, upd_ne TD]
        exact eD
      | cons x0 l0 =>
        have nl := numb_len 1 (A.take i)
        rw [List.length_take] at nl
        refine iteT ⟨.int (i : Int), rfl, i, 1, rfl, rfl, _, (by rw [upd_ne TD]; exact eD), by rw [List.length_map]; omega, ?_, ?_⟩
        · exact (k1.trans k2).new hD |>.trans Kept.refl
        · rw [upd_same, if_neg (by simp), List.map_append, List.map_cons, List.map_nil, List.length_take, Nat.min_eq_left (by omega), Nat.add_comm i 1]
    · obtain ⟨k1, eD⟩ := h
      rw [List.length_map, a2, List.take_length] at eD
      have r1 := r.stay k1
      refine ⟨.ref D, rfl, .ref a.p, rfl, a.p, C, a.dx, _, _, rfl, r1.rd.o, T.cl, T.nT, f_T, ((k + 1 : Nat) : Int), 1, rfl, rfl, D, _, _, .int (ln : Int), rfl, rfl, SqL.of eD, ?_, .int (wd : Int), rfl, (show 2 ≤ 1000 by decide), ?_⟩
      · rw [show ((k + 1 : Nat) : Int) - 1 = (k : Int) by omega]
        exact atI_nat (j := k) (by rw [List.getElem?_map, hn]; rfl)
      · have hb := (numb_mem (List.mem_of_getElem? hn)).2.2
        exact gone_rz (by dsimp only at hb; omega) hw (z.of0 k1)
end
end K9

set_option Elab.async false
set_option linter.all false
set_option maxRecDepth 100000
set_option maxHeartbeats 4000000
namespace K9
open PySem PySem.Spec PyProof.Rows L2
/-! ### enumerate of a tuple -/
open AutoSeq1 (wpAny_loadPart') in
theorem enum_new (t : Addr) (its : Array Value) (n : Nat) (dt : Option Addr) (sl : Array (Option Value)) :
    Meets (Builtin.«enumerate.__new__» ⟨[.type "enumerate", .ref t], []⟩) (fun _ R s => s.heap.get? t = some { cls := .type "tuple", dict := dt, data := .seq its n, slots := sl } ∧
      R (.ok (.ret (.ref (s.heap.push { cls := .type "tuple_iterator", data := .fields #[.ref t, .int 0 0] }).objs.size))) { s with heap := (s.heap.push { cls := .type "tuple_iterator", data := .fields #[.ref t, .int 0 0] }).push { cls := .type "enumerate", data := .fields #[.none, .bool false, .ref s.heap.objs.size, rawInt 0, .none, .none] } }) :=
  .of_wp fun prog w A R s h => by
    obtain ⟨hp, g, d, tk, os⟩ := s
    obtain ⟨look, ready⟩ := h
    have s1 := sub_enumerate
    have tup : Heap.IsTuple (Shared.heap ⟨hp, g, d, tk, os⟩) t its := ⟨_, look, rfl, n, rfl⟩
    wp_walk using wpAny_loadPart' look
    refine wpAny_stack_any fun st => wpAny_pure ?_
    split
    · rename_i c _ _ _ _ _
      cases (c == Value.type "enumerate") <;> (wp_walk using wpAny_loadPart' look, wpAny_pyIter_tuple tup; exact ⟨_, rfl, ready⟩)
    · wp_walk using wpAny_loadPart' look, wpAny_pyIter_tuple tup
      exact ⟨_, rfl, ready⟩
theorem enum_tup {prog : Program} {w : World} {A : Around} {E : Value → Shared → Prop} {s : Shared} {t : Addr} {its : Array Value} {Q : Value → Shared → Prop} (tup : s.heap.IsTuple t its)
    (h : ∀ h', IsEnum h' (s.heap.objs.size + 1) s.heap.objs.size 0 .none → h'.IsTupleIter s.heap.objs.size t 0 → (∀ b o, s.heap.get? b = some o → h'.get? b = some o) → Q (.ref (s.heap.objs.size + 1)) { s with heap := h' }) :
    wpAny (model prog w) A (call (.type "enumerate") [.ref t]) Q E s := by
  obtain ⟨⟨c, dct, dt, sl⟩, look, hc, n, hd⟩ := tup
  replace hc : c = .type "tuple" := hc
  replace hd : dt = .seq its n := hd
  subst hc hd
  refine callType_new F.called_enumerate (by decide) (F.typeCall_enumerate_1 _) (F.newCall_enumerate_1 _) (fun obj => F.args_object_init_2 obj _) F.entry_enumerate_new (enum_new t its n dct sl) ⟨look, ?_⟩
  generalize ei : ({ cls := .type "tuple_iterator", data := .fields #[.ref t, .int 0 0] } : Obj) = io
  have fi : io.isFreed = false := by rw [← ei]; rfl
  have hz : (s.heap.push io).objs.size = s.heap.objs.size + 1 := Heap.size_push ..
  show _ ∧ _
  rw [hz]
  generalize eo : ({ cls := .type "enumerate", data := .fields #[.none, .bool false, .ref s.heap.objs.size, rawInt 0, .none, .none] } : Obj) = eob
  have he : IsEnum ((s.heap.push io).push eob) (s.heap.objs.size + 1) s.heap.objs.size 0 .none := by
    have := Heap.get?_push_size (s.heap.push io) (o := eob) (by rw [← eo]; rfl)
    rw [hz] at this
    rw [← eo] at this ⊢
    exact this
  refine ⟨⟨_, he, rfl⟩, h _ he ⟨_, Heap.get?_push_of_some _ (Heap.get?_push_size _ fi), ?_, ?_⟩ fun b o x => Heap.get?_push_of_some _ (Heap.get?_push_of_some _ x)⟩
  · rw [← ei]; try rfl
  · rw [← ei]; try rfl
/-- the tuple at a, each item in a new pair -/
def IteT (K : PySem.W.Frag) (a : Addr) : It :=
  ⟨fun i H => ∃ (xs : List V) (x : V), SqT K H a xs ∧ xs[i]? = some x, fun i H v H' => ∃ T x, v = .ref T ∧ H T = none ∧ H' = upd H T (.tup [.int (i : Nat), x]) ∧ ∀ xs, SqT K H a xs → xs[i]? = some x, fun i H => ∃ xs : List V, SqT K H a xs ∧ xs.length ≤ i⟩
theorem turn_enumT {P : Program} {w : World} {K : PySem.W.Frag} {elts : List Expr} {kk : Nat} {tpos : Pos} (a e it : Addr) :
    Turn P w K (.Tuple elts kk tpos) (IteT K a) [e, it] e (fun i h => (∃ old, IsEnum h e it ((i : Nat) : Int) old) ∧ h.IsTupleIter it a i ∧ e ≠ it ∧ e ≠ a ∧ a ≠ it) where
  mem := List.mem_cons_self
  obj := fun i h st b hb => by
    obtain ⟨⟨old, he⟩, ⟨o, ho, hc, hd⟩, _⟩ := st
    rcases List.mem_cons.mp hb with z | hb
    · rw [z]; exact ⟨_, he, fun v q => nomatch q⟩
    · rw [List.mem_singleton.mp hb]; exact ⟨o, ho, fun v q => by rw [hd] at q; cases q⟩
  keep := fun i h h' st k => by
    obtain ⟨⟨old, he⟩, hi, hne, r⟩ := st
    exact ⟨⟨old, k e (by simp) _ he⟩, hi.at fun o q => k it (by simp) o q, hne, r⟩
  item := by
    intro X hP hw hK hc i pins s σ H E I hf st hg
    subst hP hw hK
    obtain ⟨⟨old, he⟩, hit, hne, hea, hai⟩ := st
    obtain ⟨xs, x, hq, hx⟩ := hg
    obtain ⟨its, rv, p, hz⟩ := I.tuple hq
    obtain ⟨u, hu, ru⟩ := rv.get hx
    have tup : s.heap.IsTuple a its.toArray := p
    have hel : e < s.heap.objs.size := Heap.lt_size he
    have hil : it < s.heap.objs.size := by obtain ⟨_, q, _⟩ := hit; exact Heap.lt_size q
    have hlt : i < its.toArray.size := by
      have := (List.getElem?_eq_some_iff.mp hu).1
      simpa using this
    have nh : X.A.in1.handled = none := I.ok.hd hc
    refine wpAny_pyNext_enum_itemD (Draws.tuple (prog := X.prog) (w := X.w) nh it a hai its.toArray) he ⟨hit, tup⟩ hlt hne (by simp [hne, hea]) fun y h' tk hy ho hst hT hsz hk => ?_
    have ey : y = u := by
      have q : its.toArray[i]? = some y := hy
      rw [show its.toArray[i]? = some u by simpa using hu] at q
      exact (Option.some.inj q).symm
    subst ey
    refine ⟨_, rfl, wpAny_letOwnedTupleGo_enum (s := { s with heap := h', toks := tk + 1 }) ho fun h'' he' sb => ?_⟩
    have hT2 : h''.get? s.heap.objs.size = some { cls := .type "tuple", data := .seq #[.int i tk, y] } := (sb.2 _ (Nat.ne_of_gt hel)).trans hT
    have new : ObjOk X.prog X.w (upd H s.heap.objs.size (.tup [.int (i : Nat), x])) h'' s.heap.objs.size (.tup [.int (i : Nat), x]) :=
      ⟨by show 2 ≤ sizeLine; decide, [.int i tk, y], .cons ⟨_, rfl⟩ (.cons ru .nil), ⟨_, hT2, rfl, _, rfl⟩⟩
    have I1 : Inv X pins σ (upd H s.heap.objs.size (.tup [.int (i : Nat), x])) { s with heap := h'', toks := tk + 1 } :=
      I.turnedNew (ch := [e, it]) (fun b ob hb q => (sb.2 b (fun z => hb (by simp [z]))).trans (hk b ob (fun z => hb (by simp [z])) (fun z => hb (by simp [z])) q)) hf (Nat.le_refl _) new
    refine ⟨.ref s.heap.objs.size, _, I1, rfl, ⟨_, x, rfl, I.hok.fresh (Nat.le_refl _), rfl, fun ys hy => by rw [I.tuple_inj hy hq]; exact hx⟩, ⟨⟨y, ?_⟩, hst.1.at fun o q => (sb.2 it (Ne.symm hne)).trans q, hne, hea, hai⟩, fun b hb => ?_⟩
    · rw [show ((i + 1 : Nat) : Int) = (i : Int) + 1 by omega]
      exact he'
    · have hb' : b < s.heap.objs.size := by
        rcases List.mem_cons.mp hb with z | hb
        · rw [z]; exact hel
        · rw [List.mem_singleton.mp hb]; exact hil
      rw [upd_ne (Nat.ne_of_lt hb')]
      exact (hf b hb).1
  done := by
    intro X hP hw hK hc i pins s σ H E I hf st hg
    subst hP hw hK
    obtain ⟨⟨old, he⟩, hit, hne, hea, hai⟩ := st
    obtain ⟨xs, hq, hx⟩ := hg
    obtain ⟨its, rv, p, hz⟩ := I.tuple hq
    have tup : s.heap.IsTuple a its.toArray := p
    obtain ⟨f0, f1, f2, f3, f4, f5⟩ := hf it (by simp)
    have hl := rv.length
    have no : its.toArray[i]? = none := by simp; omega
    have ty : s.TypeIs (.ref e) "enumerate" := ⟨_, he, rfl⟩
    unfold pyNext
    refine wpAny_bind (wpAny_attempt (wpAny_callSpecial?_slot (name := Str.ofString "__next__") ty F.slot_enumerate_next (wpAny_call_entry F.slot_enumerate_next ty F.entry_enumerate_next ?_ (F.args_enumerate_next_1 _))))
    show wpAny _ _ (field (.ref e) 2 >>= _) _ _ _
    refine wpAny_bind (wpAny_field he rfl (x := .ref it) rfl ?_)
    refine wpAny_bind (wpAny_nextOf_tuple_end (show X.A.in1.handled = none from I.ok.hd hc) hit tup no fun h' x eb hx' => ?_)
    obtain ⟨o, ho, hcl⟩ := hx'
    refine wpAny_bind (wpAny_isInstance (T := "StopIteration") (b := true) ⟨o, ho, hcl⟩ isSubtype_stop ?_)
    exact wpAny_pure ⟨rfl, I.turned (t' := s.toks) (fun b o hb q => eb b o hb q) f0 f1 f3 f4 f5⟩
  self := fun A i s Q E st h => by
    obtain ⟨⟨_, he⟩, _⟩ := st
    exact wpAny_pyIter_enum he h
def iEnumT (K : PySem.W.Frag) (ta : TA) : TI := fun σ H R => ta σ H fun vs H1 => ∃ a xs, vs = [.ref a] ∧ SqT K H1 a xs ∧ R (IteT K a) H1
theorem pi_enumT {X : Cx} {e : Expr} {ta : TA} {p pos tpos : Pos} {elts : List Expr} {kk : Nat} (hg : Gl X "enumerate") (hm : X.mg "enumerate" = none) (ha : PA X [e] ta) (hs : starEach [e] X.env = [(false, eval e X.env)] := by rfl) :
    PI X (.Tuple elts kk tpos) (.Call (.Name "enumerate" p) [e] [] pos) (iEnumT X.K ta) := by
  refine ⟨fun pins s σ H R I h => ?_⟩
  refine Call_ (ld_blt I hg hm boot_enumerate (PyProof.Rows.callWith_type1 (thn (ha.run pos pins s σ H _ I h) fun us s1 ⟨vs, H1, I1, r1, q1⟩ => ?_) hs rfl))
  obtain ⟨a, xs, rfl, hq, q⟩ := q1
  cases r1 with
  | cons r rr =>
    cases rr
    cases r
    obtain ⟨its, rv, p', hz⟩ := I1.tuple hq
    have tup : s1.heap.IsTuple a its.toArray := p'
    have al : a < s1.heap.objs.size := by obtain ⟨_, e, _⟩ := tup; exact Heap.lt_size e
    refine enum_tup tup fun h' he hit hk => wpAny_pyIter_enum he ?_
    have I2 : Inv X pins σ H1 { s1 with heap := h' } := I1.kept (t' := s1.toks) hk
    refine ⟨s1.heap.objs.size + 1, [s1.heap.objs.size + 1, s1.heap.objs.size], _, _, H1, rfl, I2, turn_enumT a (s1.heap.objs.size + 1) s1.heap.objs.size, ⟨⟨.none, he⟩, hit, Nat.succ_ne_self _, Nat.ne_of_gt (Nat.lt_succ_of_lt al), Nat.ne_of_lt al⟩, fun b hb => ?_, q⟩
    have hle : s1.heap.objs.size ≤ b := by
      rcases List.mem_cons.mp hb with z | hb
      · rw [z]; exact Nat.le_add_right _ _
      · rw [List.mem_singleton.mp hb]; exact Nat.le_refl _
    exact I1.fpOk hle (I1.hok.fresh hle)
theorem walk_enumT {K : PySem.W.Frag} {a : Addr} {xs : List V} : Walk (IteT K a) xs.length (fun H => SqT K H a xs) (YPair (fun i => some (.int (i : Nat))) (fun i => xs[i]?)) := by
  refine ⟨fun i _ hi q => ⟨xs, xs[i], q, by simp [hi]⟩, fun _ q => ⟨xs, q, Nat.le_refl _⟩, fun i H v H' _ q y => ?_⟩
  obtain ⟨T, x, h1, h2, h3, h4⟩ := y
  exact ⟨T, .int (i : Nat), x, h1, h2, h3, rfl, h4 xs q⟩
end K9

set_option Elab.async false
set_option linter.all false
set_option maxRecDepth 100000
set_option maxHeartbeats 4000000
namespace K9
open PySem PySem.Spec PyProof.Rows L2
/-! ### the first wrong word is refused -/
theorem badAt_le : ∀ (ks : List So) (zs : List PySem.Str) (i : Nat), badAt ks zs i ≤ i + ks.length
  | [], [], _ => Nat.zero_le _
  | [], _ :: _, _ => Nat.le_refl _
  | _ :: _, [], _ => Nat.le_add_right _ _
  | k :: ks, z :: zs, i => by
    unfold badAt
    split
    · have := badAt_le ks zs (i + 1)
      rw [List.length_cons]; omega
    · exact Nat.le_add_right _ _
inductive SoKs (v : Option Nat) : List PySem.Str → List So → Prop
  | nil : SoKs v [] []
  | cons {x : PySem.Str} {s : So} {xs : List PySem.Str} {ss : List So} (h : SoK v x s) (r : SoKs v xs ss) : SoKs v (x :: xs) (s :: ss)
theorem SoKs.len {v : Option Nat} {xs : List PySem.Str} {ss : List So} (h : SoKs v xs ss) : xs.length = ss.length := by
  induction h with
  | nil => rfl
  | cons _ _ ih => rw [List.length_cons, List.length_cons, ih]
theorem SoKs.get {v : Option Nat} {xs : List PySem.Str} {ss : List So} (h : SoKs v xs ss) : ∀ {i : Nat} {x : PySem.Str}, xs[i]? = some x → ∃ s, ss[i]? = some s ∧ SoK v x s := by
  induction h with
  | nil => intro i x e; cases e
  | cons h _ ih =>
    intro i x e
    cases i with
    | zero => cases e; exact ⟨_, rfl, h⟩
    | succ i => exact ih e
theorem SoKs.app {v : Option Nat} {xs ys : List PySem.Str} {ss ts : List So} (h : SoKs v xs ss) (g : SoKs v ys ts) : SoKs v (xs ++ ys) (ss ++ ts) := by
  induction h with
  | nil => exact g
  | cons h _ ih => exact .cons h ih
theorem badAt_drop {ks : List So} {zs : List PySem.Str} {i : Nat} {s : So} {z : PySem.Str} (hs : ks[i]? = some s) (hz : zs[i]? = some z) (b : Nat) : badAt (ks.drop i) (zs.drop i) b = if s.fits z then badAt (ks.drop (i + 1)) (zs.drop (i + 1)) (b + 1) else b := by
  rw [drop_at hs, drop_at hz, badAt]
abbrev sRfw : Stmt := inClass (top 30) 13
theorem scRfw : FnScope ["self", "words", "kinds", "at", "kind"] ["self", "words", "kinds"] (defScope sRfw) := ⟨rfl, rfl, rfl, by decide +kernel, rfl, by decide +kernel, by decide +kernel⟩
def spRfw (K : PySem.W.Frag) (C CB : Addr) : Sp := fun vs H Q E => ∃ (a : Ad) (A : List (List PySem.Str)) (v : Option Nat) (k m b ln : Nat) (W T : Addr) (z0 : PySem.Str) (r : List PySem.Str) (kinds : List PySem.Str) (ks : List So), vs = [.ref a.p, .ref W, .ref T] ∧ H W = some (.lst ((z0 :: r).map V.str)) ∧ SqT K H T (kinds.map V.str) ∧ SoKs v kinds ks ∧ ks.length ≤ 10 ∧
  (∀ x ∈ r, x.length ≤ sizeLine) ∧ Rf C a A v (k + 1) m b H ∧ Sz A ∧ (numb 1 A)[k]? = some (ln, z0 :: r) ∧ badAt ks r 2 ≠ 0 ∧ Rz CB a H E ln (badAt ks r 2)
section
variable {P : Program} {w : World} {K : PySem.W.Frag} {mg : PySem.Str → Option Value} {base : Heap} {f fR fF C CB D CW : Addr} {fd fdR fdF : FuncData}
theorem ok_rfw (F : FnM K "refuse_first_wrong" "Text.refuse_first_wrong" sRfw f fd) (T : TxC K mg C) (mR : Meth K C "refuse" fR) (GR : FnOk P w K mg base (L2.CX P w) 3 fR fdR ["self", "word"] (spRefuse C CB)) (bR : Binds K fdR ["self", "word"] [])
    (mF : Meth K C "fits" fF) (GF : FnOk P w K mg base CX0 5 fF fdF ["self", "word", "kind"] (spFits C)) (bF : Binds K fdF ["self", "word", "kind"] []) (m_len : mg "len" = none) (m_enumerate : mg "enumerate" = none) : FnOk P w K mg base (L2.CX P w) 6 f fd ["self", "words", "kinds"] (spRfw K C CB) := by
  refine F.ok (k := 5) scRfw (fun vs H Q E h => ?_) (fun cdv A outer s H vs Q E hr h => ?_)
  · obtain ⟨a, A, v, k, m, b, ln, W, T, z0, r, kinds, ks, rfl, _⟩ := h
    rfl
  · obtain ⟨a, A, v, k, m, b, ln, W, T0, z0, r, kinds, ks, rfl, hW, hT, sk, kl, long, rf, sz, hn, bad, z⟩ := h
    refine ⟨_, pss_cons (ps_for (passes_of rfl) rfl (pi_enumT (by rfl) m_enumerate (pa_cons (pv 2) pa_nil)) (pg_tup rfl (pgs_cons (pg_name (i := 3) scRfw.nd rfl (Or.inl rfl)) (pgs_cons (pg_name (i := 4) scRfw.nd rfl (Or.inl rfl)) pgs_nil)))
      (pss_one (ps_if (PW.pt (pw_or (pt_cmpR op_eq (pe_op op_add (pv 3) pe_int) (pe_callB call_len_seq (by rfl) m_len PySem.boot_len (pa_cons (pv 1) pa_nil)) (nomark _)) (pw_or1 (pt_not (pt_val (pe_meth (pv 0) T.cl mF GF hr bF .nil pass0 (pa_cons (pe_ix ix_list (pv 1) (pe_op op_add (pv 3) pe_int) (fun _ _ => rfl)) (pa_cons (pv 4) pa_nil))))))))
        (pss_one (ps_expr (pe_meth (pv 0) T.cl mR (GR.mono (by decide)) hr bR .nil (passes_call (takes_of rfl rfl rfl rfl) (fun _ _ _ _ h => h)) (pa_cons (pe_op op_add (pv 3) pe_int) pa_nil))))
        pss_nil)))
    (pss_one (ps_expr (pe_meth (pv 0) T.cl mR (GR.mono (by decide)) hr bR .nil (passes_call (takes_of rfl rfl rfl rfl) (fun _ _ _ _ h => h)) (pa_cons (pe_op op_add (pe_callB call_len_seq (by rfl) m_len PySem.boot_len (pa_cons (pv 2) pa_nil)) pe_int) pa_nil)))), ?_⟩
    have kl2 := sk.len
    have bl := badAt_le ks r 2
    refine ⟨.ref T0, rfl, T0, _, rfl, hT, ?_⟩
    refine for_it (walk_enumT (K := K) (a := T0) (xs := kinds.map V.str)) (fun i σ H' => (∃ x3 x4, σ = [some (.ref a.p), some (.ref W), some (.ref T0), x3, x4]) ∧ Kept None H H' ∧ i ≤ r.length ∧ badAt (ks.drop i) (r.drop i) (i + 2) = badAt ks r 2) ⟨⟨none, none, rfl⟩, Kept.refl, Nat.zero_le _, rfl⟩ (fun i σ H' _ h => ?_) (fun i x σ H' H2 hi h y => ?_) (fun σ H' h => ?_)
    · exact h.2.1.sqt hT (fun z => z)
    · obtain ⟨⟨x3, x4, rfl⟩, k1, ir, eb⟩ := h
      obtain ⟨T1, a', x', rfl, hT1, rfl, ea, ex⟩ := y
      cases ea
      have ex : (kinds.map V.str)[i]? = some x' := ex
      rw [List.getElem?_map] at ex
      obtain ⟨kd, hk, rfl⟩ := Option.map_eq_some_iff.mp ex
      obtain ⟨so, hso, sok⟩ := sk.get hk
      have k2 : Kept None H (upd H' T1 (.tup [.int (i : Int), .str kd])) := k1.new (k1.free hT1)
      refine ⟨T1, _, rfl, SqT.of upd_same, rfl, .int (i : Int), [.str kd], rfl, .str kd, [], rfl, rfl, ?_⟩
      generalize upd H' T1 (.tup [.int (i : Int), .str kd]) = H3 at k2 ⊢
      have hW3 := k2.lst hW (fun z => z)
      have rf3 := rf.stay k2
      refine ⟨.int (i : Int), rfl, (i : Int), 1, rfl, rfl, .ref W, rfl, W, _, rfl, .inl (SqL.of hW3), rfl, _, rfl, ite2 (fun c => ?_) (fun c => ?_)⟩
      · have c2 := V.int.inj (of_decide_eq_true c)
        rw [List.length_map, List.length_cons] at c2
        have ei : i = r.length := by omega
        have eb2 : badAt ks r 2 = i + 2 := by
          have e0 : r.drop i = [] := List.drop_eq_nil_of_le (by omega)
          rw [← eb, drop_at hso, e0, badAt]
        refine ⟨.ref a.p, rfl, a.p, a.dx, _, rfl, rf3.rd.o, rfl, .int (i : Int), rfl, (i : Int), 2, rfl, rfl, a, A, v, k, m, b, i + 2, ln, z0 :: r, ?_, rf3, sz, hn, by omega, ?_⟩
        · show [V.ref a.p, V.int ((i : Int) + 2)] = _
          rw [show ((i : Int) + 2) = ((i + 2 : Nat) : Int) by omega]
        · rw [← eb2]; exact z.of0 k2
      · have c2 : i ≠ r.length := fun e => c (decide_eq_true (by rw [e, List.length_map, List.length_cons]; norm_cast))
        have hir : i < r.length := by omega
        have hz := List.getElem?_eq_getElem hir
        generalize r[i] = wd at hz
        have step := badAt_drop hso hz (i + 2)
        rw [eb] at step
        refine ⟨.ref a.p, rfl, a.p, a.dx, _, rfl, rf3.rd.o, rfl, .ref W, rfl, .int (i : Int), rfl, (i : Int), 1, rfl, rfl, W, _, _, .str wd, rfl, rfl, SqL.of hW3, ?_, .str kd, rfl, a, _, v, k + 1, m, b, wd, kd, so, rfl, long wd (List.mem_of_getElem? hz), rf3.rd, sok, fun H4 k4 => ⟨_, rfl, ?_⟩⟩
        · rw [show (i : Int) + 1 = ((i + 1 : Nat) : Int) by omega]
          exact atI_nat (j := i + 1) (by rw [List.getElem?_map, List.getElem?_cons_succ, hz]; rfl)
        have k5 := k2.trans k4
        have rf4 := rf3.stay k4
        cases hf : so.fits wd with
        | true =>
          rw [hf, if_pos rfl] at step
          exact iteF ⟨⟨_, _, rfl⟩, k5, hir, step.symm⟩
        | false =>
          rw [hf, if_neg Bool.false_ne_true] at step
          refine iteT ⟨.ref a.p, rfl, a.p, a.dx, _, rfl, rf4.rd.o, rfl, .int (i : Int), rfl, (i : Int), 2, rfl, rfl, a, A, v, k, m, b, i + 2, ln, z0 :: r, ?_, rf4, sz, hn, by omega, ?_⟩
          · show [V.ref a.p, V.int ((i : Int) + 2)] = _
            rw [show ((i : Int) + 2) = ((i + 2 : Nat) : Int) by omega]
          · rw [← step]; exact z.of0 k5
    · obtain ⟨⟨x3, x4, rfl⟩, k1, ir, eb⟩ := h
      rw [List.length_map] at ir eb
      have rf1 := rf.stay k1
      have e2 : badAt ks r 2 = kinds.length + 2 := by
        rw [← eb, List.drop_eq_nil_of_le (by omega)]
        rw [List.drop_eq_nil_of_le (show ks.length ≤ kinds.length by omega)] at eb
        cases hd : r.drop kinds.length with
        | nil => rw [hd] at eb; exact absurd eb.symm bad
        | cons x y => rfl
      refine ⟨.ref a.p, rfl, a.p, a.dx, _, rfl, rf1.rd.o, rfl, .ref T0, rfl, T0, _, rfl, .inr (k1.sqt hT (fun z => z)), _, 2, rfl, rfl, a, A, v, k, m, b, kinds.length + 2, ln, z0 :: r, ?_, rf1, sz, hn, by omega, ?_⟩
      · show [V.ref a.p, V.int (((kinds.map V.str).length : Int) + 2)] = _
        rw [List.length_map, show ((kinds.length : Int) + 2) = ((kinds.length + 2 : Nat) : Int) by omega]
      · rw [← e2]; exact z.of0 k1
end
end K9

set_option Elab.async false
set_option linter.all false
set_option maxRecDepth 100000
set_option maxHeartbeats 4000000
namespace K9
open PySem PySem.Spec PyProof.Rows L2
/-! ### lines taken, what stands alone behind a word -/
def spTakeX (C CB : Addr) : Sp := fun vs H Q E => ∃ (a : Ad) (A : List (List PySem.Str)) (v : Option Nat) (k m b : Nat) (z0 : PySem.Str), vs = [.ref a.p, .str z0] ∧ Rf C a A v k m b H ∧ Sz A ∧ k ≤ (numb 1 A).length ∧
  (k = (numb 1 A).length → Rz CB a H E (A.length + 1) 1) ∧ (∀ n ws, (numb 1 A)[k]? = some (n, ws) → ws.head? ≠ some z0 → Rz CB a H E n 1) ∧
  ∀ n r W H', (numb 1 A)[k]? = some (n, z0 :: r) → Kept (At3 a) H H' → Rf C a A v (k + 1) m b H' → H' W = some (.lst ((z0 :: r).map V.str)) → Q (.ref W) H'
def spCloseX (C CB : Addr) : Sp := fun vs H Q E => ∃ (a : Ad) (A : List (List PySem.Str)) (v : Option Nat) (k m b : Nat) (z0 : PySem.Str), vs = [.ref a.p, .str z0] ∧ Rf C a A v k m b H ∧ Sz A ∧ k ≤ (numb 1 A).length ∧
  (k = (numb 1 A).length → Rz CB a H E (A.length + 1) 1) ∧ (∀ n ws, (numb 1 A)[k]? = some (n, ws) → ws.head? ≠ some z0 → Rz CB a H E n 1) ∧ (∀ n r, (numb 1 A)[k]? = some (n, z0 :: r) → r ≠ [] → Rz CB a H E n 2) ∧
  ∀ n H', (numb 1 A)[k]? = some (n, [z0]) → Kept (At3 a) H H' → Rf C a A v (k + 1) m b H' → Q .non H'
def spNameX (C CB : Addr) : Sp := fun vs H Q E => ∃ (a : Ad) (A : List (List PySem.Str)) (v : Option Nat) (k m b ln : Nat) (W : Addr) (z0 : PySem.Str) (r : List PySem.Str), vs = [.ref a.p, .ref W] ∧ H W = some (.lst ((z0 :: r).map V.str)) ∧ nameB (.str z0) = true ∧
  Rf C a A v (k + 1) m b H ∧ Sz A ∧ (numb 1 A)[k]? = some (ln, z0 :: r) ∧ b + (r.length + 1) ≤ 2000000 ∧ (badAt [.name] r 2 ≠ 0 → Rz CB a H E ln (badAt [.name] r 2)) ∧
  ∀ x H', r = [x] → nameB (.str x) = true → Kept (At3 a) H H' → Rf C a A v (k + 1) m (b + (r.length + 1)) H' → Q (.str x) H'
def spNumX (C CB : Addr) : Sp := fun vs H Q E => ∃ (a : Ad) (A : List (List PySem.Str)) (v : Option Nat) (k m b ln lo hi : Nat) (W : Addr) (z0 kind : PySem.Str) (r : List PySem.Str), vs = [.ref a.p, .ref W, .str kind] ∧ H W = some (.lst ((z0 :: r).map V.str)) ∧ BK v kind lo hi ∧
  Rf C a A v (k + 1) m b H ∧ Sz A ∧ (numb 1 A)[k]? = some (ln, z0 :: r) ∧ (badAt [.num lo hi] r 2 ≠ 0 → Rz CB a H E ln (badAt [.num lo hi] r 2)) ∧
  ∀ n x H', r = [x] → numW lo hi x = some n → Kept None H H' → Q (.int (n : Int)) H'
theorem Sz.line {A : List (List PySem.Str)} (sz : Sz A) {k n : Nat} {ws : List PySem.Str} (h : (numb 1 A)[k]? = some (n, ws)) : ∀ x ∈ ws, x.length ≤ sizeLine :=
  sz.long ws (List.mem_filter.mp (List.mem_of_getElem? (numb_at h))).1
theorem fit1 {s : So} {x : PySem.Str} : badAt [s] [x] 2 = 0 ↔ s.fits x = true := by
  unfold badAt
  cases s.fits x with
  | true => exact ⟨fun _ => rfl, fun _ => rfl⟩
  | false => exact ⟨fun h => absurd h (by decide), fun h => absurd h (by decide)⟩
theorem fit_one {s : So} {r : List PySem.Str} (h : badAt [s] r 2 = 0) : ∃ x, r = [x] ∧ s.fits x = true := by
  match r with
  | [] =>
    unfold badAt at h
    exact absurd h (by decide)
  | [x] => exact ⟨x, rfl, fit1.mp h⟩
  | x :: y :: r =>
    exfalso
    unfold badAt at h
    split at h
    · exact absurd h (by unfold badAt; decide)
    · exact absurd h (by decide)
section
variable {P : Program} {w : World} {K : PySem.W.Frag} {mg : PySem.Str → Option Value} {base : Heap} {f fR fW fT fA fO fB C CB D CW : Addr} {fd fdR fdW fdT fdA fdO fdB : FuncData}
theorem ok_takeX (F : FnM K "take_line_of" "Text.take_line_of" sTakeLineOf f fd) (T : TxC K mg C) (M : BtC P w K mg base CB fB fdB) (mR : Meth K C "refuse" fR) (GR : FnOk P w K mg base (L2.CX P w) 3 fR fdR ["self", "word"] (spRefuse C CB)) (bR : Binds K fdR ["self", "word"] []) (m_len : mg "len" = none) : FnOk P w K mg base (L2.CX P w) 4 f fd ["self", "word"] (spTakeX C CB) := by
  refine F.ok (k := 3) scTakeLineOf (fun vs H Q E h => ?_) (fun cdv A outer s H vs Q E hr h => ?_)
  · obtain ⟨a, A, v, k, m, b, z0, rfl, _⟩ := h
    rfl
  · obtain ⟨a, A, v, k, m, b, z0, rfl, rf, sz, hk, e1, e2, q⟩ := h
    refine ⟨_, pss_cons (ps_if (pt_cmpR op_eq (pe_fld (pv 0) rfl) (pe_callB call_len_seq (by rfl) m_len PySem.boot_len (pa_cons (pe_fld (pv 0) rfl) pa_nil)) (nomark _))
      (pss_one (ps_raise rfl (takes_of rfl rfl rfl rfl) (pmk_oex M.c.t M.c.i M.c.f M.G (hr.mono (by decide)) M.b .nil pass0 (by rfl) M.g (pa_cons (pe_op op_add (pe_callB call_len_seq (by rfl) m_len PySem.boot_len (pa_cons (pe_fld (pv 0) rfl) pa_nil)) pe_int) (pa_cons pe_int pa_nil)))))
      pss_nil)
    (pss_cons (ps_fldaug (pv 0) pe_int in_add)
    (pss_cons (ps_set (i := 2) scTakeLineOf.nd rfl (Or.inl rfl) (pe_ix ix_list (pe_fld (pv 0) rfl) (pe_op op_sub (pe_fld (pv 0) rfl) pe_int) (fun _ _ => rfl)))
    (pss_cons (ps_if (pt_cmpR op_ne (pe_ix ix_list (pv 2) pe_int (fun _ _ => rfl)) (pv 1) (nomark _))
      (pss_one (ps_expr (pe_meth (pv 0) T.cl mR GR hr bR .nil (passes_call (takes_of rfl rfl rfl rfl) (fun _ _ _ _ h => h)) (pa_cons pe_int pa_nil))))
      pss_nil)
    (pss_one (ps_ret (pv 2)))))), ?_⟩
    obtain ⟨ts, l1, l2, l3⟩ := rf.rd.l
    have nl := numb_ls A
    refine ⟨.ref a.p, rfl, a.p, C, a.dx, _, _, rfl, rf.rd.o, T.cl, T.nT, f_T, .ref a.p, rfl, a.p, C, a.dx, _, _, rfl, rf.rd.o, T.cl, T.nL, f_L, a.L, _, rfl, .inl (SqL.of l1), rfl, _, rfl, ite2 (fun z => ?_) (fun z => ?_)⟩
    · have z2 := V.int.inj (of_decide_eq_true z)
      rw [List.length_map, l2] at z2
      obtain ⟨as, a1, a2, a3⟩ := rf.al
      refine ⟨.ref a.p, rfl, a.p, C, a.dx, _, _, rfl, rf.rd.o, T.cl, T.nA, f_A, a.A, _, rfl, .inl (SqL.of a1), _, 1, rfl, rfl, (show 2 ≤ 1000 by decide), ?_⟩
      have g := gone_rz (K := K) (by have := sz.many; omega) (by decide) (e1 (by omega))
      rw [List.length_map, a2]
      exact g
    have hkl : k < (numb 1 A).length := by
      have z2 : ¬ (k = (lsOf A).length) := fun e => z (decide_eq_true (by rw [List.length_map, l2, e]))
      omega
    obtain ⟨⟨n, ws⟩, hn⟩ : ∃ q, (numb 1 A)[k]? = some q := ⟨_, List.getElem?_eq_getElem hkl⟩
    have hl := numb_at hn
    refine ⟨.ref a.p, rfl, a.p, C, a.dx, _, _, rfl, rf.rd.o, T.cl, T.nT, f_T, (k : Int), 1, rfl, rfl, a.dx, _, rf.rd.o, (by show 6 < 1000; decide), ?_⟩
    have r1 := rf.rd.set (k' := k + 1) (m' := m)
    have k1 : Kept (At3 a) H (upd H a.p (.ins C a.dx (fsT a.A a.L (k + 1) m a.N a.B))) := Kept.refl.upd (.inl rfl)
    have ep : putF "taken" (.int ((k : Int) + 1)) (fsT a.A a.L k m a.N a.B) = fsT a.A a.L (k + 1) m a.N a.B := p_T (k' := k + 1)
    rw [ep]
    have rf1 := rf.keep k1 r1
    generalize upd H a.p (.ins C a.dx (fsT a.A a.L (k + 1) m a.N a.B)) = H1 at rf1 k1 ⊢
    clear r1
    obtain ⟨ts, l1, l2, l3⟩ := rf1.rd.l
    have ht := List.getElem?_eq_getElem (l := ts) (i := k) (by omega)
    have eW := l3 k _ _ ht hl
    refine ⟨.ref a.p, rfl, a.p, C, a.dx, _, _, rfl, rf1.rd.o, T.cl, T.nL, f_L, .ref a.p, rfl, a.p, C, a.dx, _, _, rfl, rf1.rd.o, T.cl, T.nT, f_T, ((k + 1 : Nat) : Int), 1, rfl, rfl, a.L, _, ((k + 1 : Nat) : Int) - 1, .ref ts[k], rfl, rfl, SqL.of l1, ?_, ?_⟩
    · rw [show ((k + 1 : Nat) : Int) - 1 = (k : Int) by omega]
      exact atI_nat (j := k) (by rw [List.getElem?_map, ht]; rfl)
    cases ws with
    | nil => exact absurd rfl (numb_mem (List.mem_of_getElem? hn)).1
    | cons x r =>
      refine ⟨.ref ts[k], rfl, ts[k], _, 0, .str x, rfl, rfl, SqL.of eW, atI_nat (j := 0) rfl, .str z0, rfl, rfl, _, rfl, ?_⟩
      by_cases hx : x = z0
      · subst hx
        rw [decide_eq_true rfl]
        exact iteF ⟨.ref ts[k], rfl, q n r _ H1 hn k1 rf1 eW⟩
      · rw [decide_eq_false (fun e => hx (V.str.inj e))]
        refine iteT ⟨.ref a.p, rfl, a.p, a.dx, _, rfl, rf1.rd.o, rfl, a, A, v, k, m, b, 1, n, x :: r, rfl, rf1, sz, hn, by decide, ?_⟩
        exact (e2 n _ hn (fun e => hx (Option.some.inj e))).of k1
theorem ok_closeX (F : FnM K "take_closing" "Text.take_closing" sTakeClosing f fd) (T : TxC K mg C) (mT : Meth K C "take_line_of" fT) (GT : FnOk P w K mg base (L2.CX P w) 4 fT fdT ["self", "word"] (spTakeX C CB)) (bT : Binds K fdT ["self", "word"] []) (mR : Meth K C "refuse" fR) (GR : FnOk P w K mg base (L2.CX P w) 3 fR fdR ["self", "word"] (spRefuse C CB)) (bR : Binds K fdR ["self", "word"] []) (m_len : mg "len" = none) : FnOk P w K mg base (L2.CX P w) 5 f fd ["self", "word"] (spCloseX C CB) := by
  refine F.ok (k := 4) scTakeClosing (fun vs H Q E h => ?_) (fun cdv A outer s H vs Q E hr h => ?_)
  · obtain ⟨a, A, v, k, m, b, z0, rfl, _⟩ := h
    rfl
  · obtain ⟨a, A, v, k, m, b, z0, rfl, rf, sz, hk, e1, e2, e3, q⟩ := h
    refine ⟨_, pss_one (ps_if (pt_cmpR op_gt (pe_callB call_len_seq (by rfl) m_len PySem.boot_len (pa_cons (pe_meth (pv 0) T.cl mT GT hr bT .nil (passes_call (takes_of rfl rfl rfl rfl) (fun _ _ _ _ h => h)) (pa_cons (pv 1) pa_nil)) pa_nil)) pe_int (nomark _))
      (pss_one (ps_expr (pe_meth (pv 0) T.cl mR (GR.mono (by decide)) hr bR .nil (passes_call (takes_of rfl rfl rfl rfl) (fun _ _ _ _ h => h)) (pa_cons pe_int pa_nil))))
      pss_nil), ?_⟩
    refine ⟨.ref a.p, rfl, a.p, a.dx, _, rfl, rf.rd.o, rfl, .str z0, rfl, a, A, v, k, m, b, z0, rfl, rf, sz, hk, e1, e2, fun n r W H1 hn k1 rf1 eW => ?_⟩
    refine ⟨W, _, rfl, .inl (SqL.of eW), _, 1, rfl, rfl, _, rfl, ?_⟩
    cases r with
    | nil => exact iteF (q n H1 hn k1 rf1)
    | cons x r =>
      rw [show decide _ = true from decide_eq_true (by simp only [List.length_map, List.length_cons]; omega)]
      exact iteT ⟨.ref a.p, rfl, a.p, a.dx, _, rfl, rf1.rd.o, rfl, a, A, v, k, m, b, 2, n, z0 :: x :: r, rfl, rf1, sz, hn, by decide, (e3 n _ hn (by simp)).of k1⟩
theorem ok_nameX (F : FnM K "name_behind" "Text.name_behind" sNameBehind f fd) (T : TxC K mg C) (mA : Meth K C "are_names" fA) (GA : FnOk P w K mg base CX0 3 fA fdA ["self", "words"] (spAll C)) (bA : Binds K fdA ["self", "words"] []) (mW : Meth K C "refuse_first_wrong" fW) (GW : FnOk P w K mg base (L2.CX P w) 6 fW fdW ["self", "words", "kinds"] (spRfw K C CB)) (bW : Binds K fdW ["self", "words", "kinds"] []) (m_len : mg "len" = none) :
    FnOk P w K mg base (L2.CX P w) 7 f fd ["self", "words"] (spNameX C CB) := by
  refine F.ok (k := 6) scNameBehind (fun vs H Q E h => ?_) (fun cdv A outer s H vs Q E hr h => ?_)
  · obtain ⟨a, A, v, k, m, b, ln, W, z0, r, rfl, _⟩ := h
    rfl
  · obtain ⟨a, A, v, k, m, b, ln, W, z0, r, rfl, hW, nz, rf, sz, hn, hb, e1, q⟩ := h
    refine ⟨_, pss_cons (ps_if (PW.pt (pw_or (pt_cmpR op_ne (pe_callB call_len_seq (by rfl) m_len PySem.boot_len (pa_cons (pv 1) pa_nil)) pe_int (nomark _)) (pw_or1 (pt_not (pt_val (pe_meth (pv 0) T.cl mA (GA.mono (by decide)) hr bA .nil pass0 (pa_cons (pv 1) pa_nil)))))))
      (pss_one (ps_expr (pe_meth (pv 0) T.cl mW GW hr bW .nil (passes_call (takes_of rfl rfl rfl rfl) (fun _ _ _ _ h => h)) (pa_cons (pv 1) (pa_cons (pe_tup (pa_cons pe_str pa_nil)) pa_nil)))))
      pss_nil)
    (pss_one (ps_ret (pe_ix ix_list (pv 1) pe_int (fun _ _ => rfl)))), ?_⟩
    have long := sz.line hn
    have wrong : ∀ {b' : Nat} {H1 : Hp}, Kept (At3 a) H H1 → Rf C a A v (k + 1) m b' H1 → badAt [.name] r 2 ≠ 0 → ∀ T1, H1 T1 = none →
        spRfw K C CB [.ref a.p, .ref W, .ref T1] (upd H1 T1 (.tup [.str "name"])) (fun _ _ => True) E := fun {b' H1} k1 rf1 bad T1 hT1 => by
      have k2 : Kept None H1 (upd H1 T1 (.tup [.str "name"])) := Kept.refl.new hT1
      have hW1 := k1.lst hW (rf.rd.nl _ _ hW)
      exact ⟨a, A, v, k, m, b', ln, W, T1, z0, r, ["name"], [.name], rfl, k2.lst hW1 (fun z => z), SqT.of upd_same, .cons .name .nil, by decide, fun x hx => long x (List.mem_cons_of_mem _ hx), rf1.stay k2, sz, hn, bad, ((e1 bad).of k1).of0 k2⟩
    refine ⟨.ref W, rfl, W, _, rfl, .inl (SqL.of hW), rfl, _, rfl, ite2 (fun c => ?_) (fun c => ?_)⟩
    · have c2 : r.length ≠ 1 := fun e => by
        rw [decide_eq_true (by rw [List.length_map, List.length_cons, e]; rfl)] at c
        cases c
      have bad : badAt [.name] r 2 ≠ 0 := fun e => by
        obtain ⟨x, rfl, _⟩ := fit_one e
        exact c2 rfl
      exact ⟨.ref a.p, rfl, a.p, a.dx, _, rfl, rf.rd.o, rfl, .ref W, rfl, (show 1 ≤ sizeLine by decide), fun T1 hT1 => wrong Kept.refl rf bad T1 hT1⟩
    · have c2 : r.length = 1 := Classical.byContradiction fun e => c (by
        rw [decide_eq_false (fun z => e (by have z2 := V.int.inj z; rw [List.length_map, List.length_cons] at z2; omega))]
        rfl)
      match r, c2 with
      | [x], _ =>
      refine ⟨.ref a.p, rfl, a.p, a.dx, _, rfl, rf.rd.o, rfl, .ref W, rfl, a, _, v, k + 1, m, b, W, [z0, x], rfl, hW, long, rf.rd, hb, fun H1 k1 r1 => ⟨_, rfl, ?_⟩⟩
      have rf1 := rf.keep k1 r1
      have al : ([z0, x].all fun x => nameB (.str x)) = nameB (.str x) := by
        simp only [List.all_cons, List.all_nil, nz, Bool.true_and, Bool.and_true]
      rw [al]
      cases hx : nameB (.str x) with
      | true => exact iteF ⟨.ref W, rfl, W, _, 1, .str x, rfl, rfl, SqL.of (k1.lst hW (rf.rd.nl _ _ hW)), atI_nat (j := 1) rfl, q x H1 rfl hx k1 rf1⟩
      | false =>
        have bad : badAt [.name] [x] 2 ≠ 0 := fun e => by
          have := fit1.mp e
          rw [So.fits, hx] at this
          cases this
        exact iteT ⟨.ref a.p, rfl, a.p, a.dx, _, rfl, rf1.rd.o, rfl, .ref W, rfl, (show 1 ≤ sizeLine by decide), fun T1 hT1 => wrong k1 rf1 bad T1 hT1⟩
theorem ok_numX (F : FnM K "number_behind" "Text.number_behind" sNumberBehind f fd) (T : TxC K mg C) (mO : Meth K C "number_of" fO) (GO : FnOk P w K mg base CX0 4 fO fdO ["self", "word", "kind"] (spNumO C)) (bO : Binds K fdO ["self", "word", "kind"] []) (mW : Meth K C "refuse_first_wrong" fW) (GW : FnOk P w K mg base (L2.CX P w) 6 fW fdW ["self", "words", "kinds"] (spRfw K C CB)) (bW : Binds K fdW ["self", "words", "kinds"] []) (m_len : mg "len" = none) :
    FnOk P w K mg base (L2.CX P w) 7 f fd ["self", "words", "kind"] (spNumX C CB) := by
  refine F.ok (k := 6) scNumberBehind (fun vs H Q E h => ?_) (fun cdv A outer s H vs Q E hr h => ?_)
  · obtain ⟨a, A, v, k, m, b, ln, lo, hi, W, z0, kind, r, rfl, _⟩ := h
    rfl
  · obtain ⟨a, A, v, k, m, b, ln, lo, hi, W, z0, kind, r, rfl, hW, bk, rf, sz, hn, e1, q⟩ := h
    refine ⟨_, pss_cons (ps_set (i := 3) scNumberBehind.nd rfl (Or.inl rfl) (pe_ifExp (pt_cmpR op_eq (pe_callB call_len_seq (by rfl) m_len PySem.boot_len (pa_cons (pv 1) pa_nil)) pe_int (nomark _)) (pe_meth (pv 0) T.cl mO (GO.mono (by decide)) hr bO .nil pass0 (pa_cons (pe_ix ix_list (pv 1) pe_int (fun _ _ => rfl)) (pa_cons (pv 2) pa_nil))) pe_non))
    (pss_cons (ps_if (pt_cmpR op_isN (pv 3) pe_non (nomark _))
      (pss_one (ps_expr (pe_meth (pv 0) T.cl mW GW hr bW .nil (passes_call (takes_of rfl rfl rfl rfl) (fun _ _ _ _ h => h)) (pa_cons (pv 1) (pa_cons (pe_tup (pa_cons (pv 2) pa_nil)) pa_nil)))))
      pss_nil)
    (pss_one (ps_ret (pv 3)))), ?_⟩
    have long := sz.line hn
    have wrong : ∀ {H1 : Hp}, Kept None H H1 → badAt [.num lo hi] r 2 ≠ 0 → ∀ T1, H1 T1 = none →
        spRfw K C CB [.ref a.p, .ref W, .ref T1] (upd H1 T1 (.tup [.str kind])) (fun _ _ => True) E := fun {H1} k1 bad T1 hT1 => by
      have k2 : Kept None H1 (upd H1 T1 (.tup [.str kind])) := Kept.refl.new hT1
      have k3 := k1.trans k2
      exact ⟨a, A, v, k, m, b, ln, W, T1, z0, r, [kind], [.num lo hi], rfl, k3.lst hW (fun z => z), SqT.of upd_same, .cons (.num bk) .nil, (show 1 ≤ 10 by decide), fun x hx => long x (List.mem_cons_of_mem _ hx), rf.stay k3, sz, hn, bad, (e1 bad).of0 k3⟩
    refine ⟨.ref W, rfl, W, _, rfl, .inl (SqL.of hW), rfl, _, rfl, ite2 (fun c => ?_) (fun c => ?_)⟩
    · have c2 : r.length = 1 := by
        have := V.int.inj (of_decide_eq_true c)
        rw [List.length_map, List.length_cons] at this
        omega
      match r, c2 with
      | [x], _ =>
      refine ⟨.ref a.p, rfl, a.p, a.dx, _, rfl, rf.rd.o, rfl, .ref W, rfl, W, _, 1, .str x, rfl, rfl, SqL.of hW, atI_nat (j := 1) rfl, .str kind, rfl, a, _, v, k + 1, m, b, lo, hi, x, kind, rfl, long x (by simp), rf.rd, bk, fun H1 k1 => ?_⟩
      have rf1 := rf.stay k1
      cases hx : numW lo hi x with
      | some n => exact ⟨.int (n : Int), rfl, rfl, _, rfl, iteF ⟨.int (n : Int), rfl, q n x H1 rfl hx k1⟩⟩
      | none =>
        have bad : badAt [.num lo hi] [x] 2 ≠ 0 := fun e => by
          have := fit1.mp e
          rw [So.fits, hx] at this
          cases this
        exact ⟨.non, rfl, rfl, _, rfl, iteT ⟨.ref a.p, rfl, a.p, a.dx, _, rfl, rf1.rd.o, rfl, .ref W, rfl, .str kind, rfl, (show 1 ≤ sizeLine by decide), fun T1 hT1 => wrong k1 bad T1 hT1⟩⟩
    · have c2 : r.length ≠ 1 := fun e => c (decide_eq_true (by rw [List.length_map, List.length_cons, e]; rfl))
      have bad : badAt [.num lo hi] r 2 ≠ 0 := fun e => by
        obtain ⟨x, rfl, _⟩ := fit_one e
        exact c2 rfl
      exact ⟨.non, rfl, rfl, _, rfl, iteT ⟨.ref a.p, rfl, a.p, a.dx, _, rfl, rf.rd.o, rfl, .ref W, rfl, .str kind, rfl, (show 1 ≤ sizeLine by decide), fun T1 hT1 => wrong Kept.refl bad T1 hT1⟩⟩
end
end K9

set_option Elab.async false
set_option linter.all false
set_option maxRecDepth 100000
set_option maxHeartbeats 4000000
namespace K9
open PySem PySem.Spec PyProof.Rows L2
/-! ### a tuple once: the very tuple -/
open AutoSeq1 (wpAny_loadPart') in
theorem tuple_once (l : Addr) (its : Array Value) (n : Nat) (dd : Option Addr) (sl : Array (Option Value)) (u : Tok) :
    Meets (Builtin.«tuple.__mul__» ⟨[.ref l, .int 1 u], []⟩) (fun _ R s => s.heap.get? l = some { cls := .type "tuple", dict := dd, data := .seq its n, slots := sl } ∧ R (.ok (.ret (.ref l))) s) :=
  .of_wp fun prog w A R s h => by
    obtain ⟨hp, g, d, tk, os⟩ := s
    obtain ⟨look, ready⟩ := h
    have f1 := AutoSeq1.idx_int
    have c0 : (decide ((1 : Int) < -(2 ^ 63)) || decide ((1 : Int) ≥ 2 ^ 63)) = false := by decide
    have c1 : (its.isEmpty || ((1 : Int) == 1)) = true := by cases its.isEmpty <;> rfl
    wp_walk using wpAny_loadPart' look
    repeat (first
      | (refine wpAny_ite_false (decide_eq_false (by rw [c0]; exact Bool.false_ne_true)) ?_; wp_walk using wpAny_loadPart' look)
      | (refine wpAny_ite_true (decide_eq_true c1) ?_; wp_walk using wpAny_loadPart' look))
    exact ⟨_, rfl, ready⟩
def rRepN (K : PySem.W.Frag) : R2 := fun x y H Q => ∃ (l : Addr) (k : Nat) (xs : List V), x = .ref l ∧ y = .int (k : Int) ∧ SqT K H l xs ∧ xs ≠ [] ∧ 1 ≤ k ∧ k ≤ 1000 ∧ xs.length ≤ 1000 ∧ ∀ p H', Kept None H H' → SqT K H' p (List.replicate k xs).flatten → Q (.ref p) H'
theorem op_repN {X : Cx} : OpR X (binaryOp .Mult) (rRepN X.K) := by
  intro pins s σ H x y v u Q I rx ry h
  obtain ⟨l, k, xs, rfl, rfl, hT, hne, h1, h2, hz, q⟩ := h
  by_cases hk : 2 ≤ k
  · refine op_repT pins s σ H _ _ v u Q I rx ry ⟨l, (k : Int), xs, rfl, rfl, hT, hne, by omega, by omega, hz, fun p hp => ?_⟩
    rw [Int.toNat_natCast]
    exact q p _ (Kept.refl.new hp) (SqT.of upd_same)
  · have e1 : k = 1 := by omega
    subst e1
    cases rx
    obtain ⟨t, rfl⟩ := ry
    obtain ⟨its, r, ⟨⟨cls, dd, data, sl⟩, ho, hc, n, hd⟩, hs⟩ := I.tuple hT
    simp only at hc hd
    subst hc hd
    refine wpAny_binaryOp_repeat_ref (T := "tuple") (U := "int") (by decide) ⟨_, ho, rfl⟩ (fun s' => typeIs_int s' 1 t) noFill_tuple_mul F.fills_int_mul F.slot_int_rmul repeat_tuple F.slot_int_index.lookup
      (call_meets F.slot_int_rmul (typeIs_int s 1 t) F.entry_int_rmul (F.args_int_rmul_2 _ _) (int_rmul_tuple 1 t l its.toArray n dd sl)
        ⟨ho, rfl, ⟨_, ho, rfl⟩, call_meets F.slot_tuple_mul ⟨_, ho, rfl⟩ F.entry_tuple_mul (F.args_tuple_mul_2 _ _) (tuple_once l its.toArray n dd sl t) ⟨ho, ?_⟩⟩)
    refine ⟨.ref l, H, I, rfl, q l H Kept.refl ?_⟩
    rw [show (List.replicate 1 xs).flatten = xs by simp]
    exact hT
/-! ### d.get(key, other) of the module's dict, the key there or not -/
def tKGetD (K : PySem.W.Frag) (w : World) (td ty tx : TE) : TE := fun σ H Q => td σ H fun x H1 => ∃ a, x = .ref a ∧ (∃ es n, KDict K w a es n) ∧ ty σ H1 fun y H2 => ∃ z : PySem.Str, y = .str z ∧ tx σ H2 fun o H3 => ∃ r : Option Value, PySem.W.nsIn K a z = some r ∧ (∀ u0, r = some u0 → ∃ v0, RelV v0 u0 ∧ Q v0 H3) ∧ (r = none → Q o H3)
section
variable {X : Cx} {o e f : Expr} {apos cpos : Pos} {td ty tx : TE}
theorem pe_kgetD (ho : PE X o td) (he : PE X e ty) (hf : PE X f tx) (m : M2 X o "get" apos e f cpos) : PE X (.Call (.Attribute o "get" apos) [e, f] [] cpos) (tKGetD X.K X.w td ty tx) := by
  refine ⟨fun pins s σ H Q I h => ?_⟩
  refine wpAny_Call_method m.base m.few m.line PySem.F.plainAttrs_dict PySem.F.slot_dict_get PySem.F.type_dict_get (thn (ho.run pins s σ H _ I h) fun u s1 ⟨x, H1, I1, rx, a, ex, ⟨es, n, D⟩, q1⟩ => ?_)
  subst ex
  obtain rfl : u = Value.ref a := rx
  refine ⟨kd_type D I1, fun b q => ?_, ?_⟩
  · cases q
    exact ⟨_, I1.kIn _ _ D.at_, rfl⟩
  rw [m.trees]
  refine Calls.callWith_builtin rfl (Calls.evalArgs_plain (Calls.spliced_cons (thn (he.run pins s1 σ H1 _ I1 q1) fun iv s2 ⟨y, H2, I2, ry, z, ey, q2⟩ =>
    Calls.spliced_cons (thn (hf.run pins s2 σ H2 _ I2 q2) fun fv s3 ⟨y3, H3, I3, rz, r0, e0, qs, qn⟩ => Calls.spliced_nil ?_))))
  subst ey
  obtain ⟨t, rfl⟩ := ry
  refine call_meetsIn PySem.F.slot_dict_get (kd_type D I3) PySem.F.entry_dict_get (PySem.F.args_dict_get_3 _ _ _) (meets_dict_get_default (PySem.strKind X.prog X.w) a (PySem.strKind_is X.prog X.w z t) D.low fv) ⟨_, PySem.W.mapOf_K (prog := X.prog) I3.kIn D.at_ D.lit, ?_⟩
  rw [PySem.W.find_K D.at_ e0]
  cases r0 with
  | some u0 =>
    obtain ⟨v0, rv, q⟩ := qs u0 rfl
    exact ⟨v0, H3, I3.tok _, rv, q⟩
  | none => exact ⟨y3, H3, I3.tok _, rz, qn rfl⟩
end
/-! ### which words fit -/
theorem bad0 : ∀ {ks : List So} {zs : List PySem.Str} {i : Nat}, 1 ≤ i → badAt ks zs i = 0 → ks.length = zs.length ∧ ∀ (j : Nat) (s : So) (z : PySem.Str), ks[j]? = some s → zs[j]? = some z → s.fits z = true
  | [], [], _, _, _ => ⟨rfl, fun j s z h => by cases h⟩
  | [], _ :: _, i, hi, h => by
    have h : i = 0 := h
    omega
  | _ :: _, [], i, hi, h => by
    have h : i = 0 := h
    omega
  | k :: ks, z :: zs, i, hi, h => by
    unfold badAt at h
    split at h
    · rename_i hf
      obtain ⟨h1, h2⟩ := bad0 (by omega) h
      refine ⟨by rw [List.length_cons, List.length_cons, h1], fun j s y e1 e2 => ?_⟩
      cases j with
      | zero => cases e1; cases e2; exact hf
      | succ j => exact h2 j s y e1 e2
    · omega
theorem bad0_of : ∀ {ks : List So} {zs : List PySem.Str} {i : Nat}, ks.length = zs.length → (∀ (j : Nat) (s : So) (z : PySem.Str), ks[j]? = some s → zs[j]? = some z → s.fits z = true) → badAt ks zs i = 0
  | [], [], _, _, _ => rfl
  | [], _ :: _, _, h, _ => by cases h
  | _ :: _, [], _, h, _ => by cases h
  | k :: ks, z :: zs, i, h, f => by
    unfold badAt
    rw [if_pos (f 0 k z rfl rfl)]
    exact bad0_of (Nat.succ.inj h) fun j s y e1 e2 => f (j + 1) s y e1 e2
theorem bad_names {n : Nat} {r : List PySem.Str} {i : Nat} (hi : 1 ≤ i) : badAt (List.replicate n .name) r i = 0 ↔ r.length = n ∧ r.all (fun x => nameB (.str x)) = true := by
  constructor
  · intro h
    obtain ⟨h1, h2⟩ := bad0 hi h
    rw [List.length_replicate] at h1
    refine ⟨h1.symm, List.all_eq_true.mpr fun x hx => ?_⟩
    obtain ⟨j, hj⟩ := List.getElem?_of_mem hx
    have hjn : j < n := by rw [h1]; exact (List.getElem?_eq_some_iff.mp hj).1
    exact h2 j .name x (by rw [List.getElem?_replicate, if_pos hjn]) hj
  · rintro ⟨h1, h2⟩
    refine bad0_of (by rw [List.length_replicate, h1]) fun j s z e1 e2 => ?_
    rw [List.getElem?_replicate] at e1
    split at e1
    · cases e1
      exact List.all_eq_true.mp h2 z (List.mem_of_getElem? e2)
    · cases e1
theorem SoKs.rep {v : Option Nat} : ∀ n : Nat, SoKs v (List.replicate n "name") (List.replicate n .name)
  | 0 => .nil
  | n + 1 => .cons .name (SoKs.rep n)
theorem flat_rep (n : Nat) : (List.replicate n [V.str "name"]).flatten = (List.replicate n ("name" : PySem.Str)).map V.str := by
  induction n with
  | zero => rfl
  | succ n ih => rw [List.replicate_succ, List.flatten_cons, ih, List.replicate_succ, List.map_cons]; rfl
def spInX (C CB : Addr) : Sp := fun vs H Q E => ∃ (a : Ad) (A : List (List PySem.Str)) (v : Option Nat) (k m b : Nat), vs = [.ref a.p] ∧ Rf C a A v k m b H ∧ Sz A ∧ k ≤ (numb 1 A).length ∧ (∀ n ws, (numb 1 A)[k]? = some (n, ws) → b + ws.length ≤ 2000000) ∧
  (k = (numb 1 A).length → Rz CB a H E (A.length + 1) 1) ∧ (∀ n ws, (numb 1 A)[k]? = some (n, ws) → badHead "in" (inS ws) ws ≠ 0 → Rz CB a H E n (badHead "in" (inS ws) ws)) ∧
  ∀ n xs p H', (numb 1 A)[k]? = some (n, ("in" : PySem.Str) :: xs) → xs.length ≤ 4 → (∀ x ∈ xs, Nm x) → Kept (At3 a) H H' → Rf C a A v (k + 1) m (b + (xs.length + 1)) H' → H' p = some (.tup (xs.map V.str)) → Q (.ref p) H'
section
variable {P : Program} {w : World} {K : PySem.W.Frag} {mg : PySem.Str → Option Value} {base : Heap} {f fR fW fT fA fO fB C CB D CW : Addr} {fd fdR fdW fdT fdA fdO fdB : FuncData}
theorem ok_inX (F : FnM K "read_inputs" "Text.read_inputs" sReadInputs f fd) (T : TxC K mg C) (mT : Meth K C "take_line_of" fT) (GT : FnOk P w K mg base (L2.CX P w) 4 fT fdT ["self", "word"] (spTakeX C CB)) (bT : Binds K fdT ["self", "word"] []) (mA : Meth K C "are_names" fA) (GA : FnOk P w K mg base CX0 3 fA fdA ["self", "words"] (spAll C)) (bA : Binds K fdA ["self", "words"] [])
    (mW : Meth K C "refuse_first_wrong" fW) (GW : FnOk P w K mg base (L2.CX P w) 6 fW fdW ["self", "words", "kinds"] (spRfw K C CB)) (bW : Binds K fdW ["self", "words", "kinds"] []) (m_len : mg "len" = none) (m_min : mg "min" = none) (m_tuple : mg "tuple" = none) {t4 : Tok} (g4 : mg "MOST_INPUTS" = some (.int 4 t4)) :
    FnOk P w K mg base (L2.CX P w) 7 f fd ["self"] (spInX C CB) := by
  refine F.ok (k := 6) scReadInputs (fun vs H Q E h => ?_) (fun cdv A outer s H vs Q E hr h => ?_)
  · obtain ⟨a, A, v, k, m, b, rfl, _⟩ := h
    rfl
  · obtain ⟨a, A, v, k, m, b, rfl, rf, sz, hk, hb, e1, e2, q⟩ := h
    refine ⟨_, pss_cons (ps_set (i := 1) scReadInputs.nd rfl (Or.inl rfl) (pe_meth (pv 0) T.cl mT (GT.mono (by decide)) hr bT .nil (passes_call (takes_of rfl rfl rfl rfl) (fun _ _ _ _ h => h)) (pa_cons pe_str pa_nil)))
    (pss_cons (ps_if (PW.pt (pw_or (pt_cmpR op_gt (pe_callB call_len_seq (by rfl) m_len PySem.boot_len (pa_cons (pv 1) pa_nil)) (pe_op op_add (pe_glob (v := .int 4) (by rfl) g4 ⟨_, rfl⟩) pe_int) (nomark _)) (pw_or1 (pt_not (pt_val (pe_meth (pv 0) T.cl mA (GA.mono (by decide)) hr bA .nil pass0 (pa_cons (pv 1) pa_nil)))))))
      (pss_one (ps_expr (pe_meth (pv 0) T.cl mW GW hr bW .nil (passes_call (takes_of rfl rfl rfl rfl) (fun _ _ _ _ h => h)) (pa_cons (pv 1) (pa_cons (pe_op op_repN (pe_tup (pa_cons pe_str pa_nil)) (pe_callB (call_min2 rfl) (by rfl) m_min (by decide +kernel) (pa_cons (pe_op op_sub (pe_callB call_len_seq (by rfl) m_len PySem.boot_len (pa_cons (pv 1) pa_nil)) pe_int) (pa_cons (pe_glob (v := .int 4) (by rfl) g4 ⟨_, rfl⟩) pa_nil)))) pa_nil)))))
      pss_nil)
    (pss_one (ps_ret (pe_tupleOf (by rfl) m_tuple (pe_slice sl_list (pv 1) (po_some pe_int) po_none))))), ?_⟩
    refine ⟨.ref a.p, rfl, a.p, a.dx, _, rfl, rf.rd.o, rfl, a, A, v, k, m, b, "in", rfl, rf, sz, hk, e1, fun n ws hn hh => ?_, fun n xs W H1 hn k1 rf1 eW => ?_⟩
    · have eb : badHead "in" (inS ws) ws = 1 := by
        cases ws with
        | nil => rfl
        | cons x r =>
          show (if x = ("in" : PySem.Str) then _ else 1) = 1
          rw [if_neg (fun e => hh (by rw [e]; rfl))]
      have z := e2 n ws hn (by rw [eb]; decide)
      rw [eb] at z
      exact z
    have e3 := e2 n _ hn
    have hb1 := hb n _ hn
    have eS : inS (("in" : PySem.Str) :: xs) = List.replicate (min xs.length 4) .name := by unfold inS; rfl
    have eH : badHead "in" (inS (("in" : PySem.Str) :: xs)) (("in" : PySem.Str) :: xs) = badAt (List.replicate (min xs.length 4) .name) xs 2 := by
      rw [eS]
      unfold badHead
      dsimp only
      rw [if_pos rfl]
    rw [eH] at e3
    have long := sz.line hn
    have nin : nameB (.str "in") = true := nm_in
    have wrong : ∀ {b' : Nat} {H2 : Hp}, Kept (At3 a) H1 H2 → Rf C a A v (k + 1) m b' H2 → 1 ≤ xs.length → badAt (List.replicate (min xs.length 4) .name) xs 2 ≠ 0 → ∀ T1, H2 T1 = none →
        rRepN K (.ref T1) (.int (((min xs.length 4 : Nat)) : Int)) (upd H2 T1 (.tup [.str "name"])) (fun y H3 => spRfw K C CB [.ref a.p, .ref W, y] H3 (fun _ _ => True) E) := fun {b' H2} k2 rf2 one bad T1 hT1 => by
      have k3 : Kept None H2 (upd H2 T1 (.tup [.str "name"])) := Kept.refl.new hT1
      refine ⟨T1, _, _, rfl, rfl, SqT.of upd_same, by simp, by omega, by omega, by decide, fun p H3 k4 hp => ?_⟩
      have k5 := k3.trans k4
      rw [flat_rep] at hp
      have eW3 := k5.lst (k2.lst eW (rf1.rd.nl _ _ eW)) (fun z => z)
      exact ⟨a, A, v, k, m, b', n, W, p, "in", xs, _, _, rfl, eW3, hp, SoKs.rep _, by rw [List.length_replicate]; omega, fun x hx => long x (List.mem_cons_of_mem _ hx), rf2.stay k5, sz, hn, bad, (((e3 bad).of k1).of k2).of0 k5⟩
    have emin : (if (4 : Int) < (((("in" : PySem.Str) :: xs).map V.str).length : Int) - 1 then (4 : Int) else (((("in" : PySem.Str) :: xs).map V.str).length : Int) - 1) = ((min xs.length 4 : Nat) : Int) := by
      rw [List.length_map, List.length_cons]
      split <;> omega
    refine ⟨.ref W, rfl, W, _, rfl, .inl (SqL.of eW), 4, 1, rfl, rfl, _, _, rfl, rfl, _, rfl, ite2 (fun c => ?_) (fun c => ?_)⟩
    · have c2 : 5 ≤ xs.length := by
        have := of_decide_eq_true c
        rw [List.length_map, List.length_cons] at this
        omega
      have bad : badAt (List.replicate (min xs.length 4) .name) xs 2 ≠ 0 := fun e => by
        have := ((bad_names (by decide)).mp e).1
        omega
      refine ⟨.ref a.p, rfl, a.p, a.dx, _, rfl, rf1.rd.o, rfl, .ref W, rfl, (show 1 ≤ sizeLine by decide), fun T1 hT1 => ⟨.ref W, rfl, W, _, rfl, .inl (SqL.of ((Kept.refl.new hT1 : Kept None H1 (upd H1 T1 (.tup [.str "name"]))).lst eW (fun z => z))), _, 1, rfl, rfl, _, 4, rfl, ?_⟩⟩
      show rRepN K (.ref T1) (.int (if (4 : Int) < (((("in" : PySem.Str) :: xs).map V.str).length : Int) - 1 then (4 : Int) else (((("in" : PySem.Str) :: xs).map V.str).length : Int) - 1)) _ _
      rw [emin]
      exact wrong Kept.refl rf1 (by omega) bad T1 hT1
    · have c2 : xs.length ≤ 4 := Classical.byContradiction fun h => c (decide_eq_true (by rw [List.length_map, List.length_cons]; omega))
      refine ⟨.ref a.p, rfl, a.p, a.dx, _, rfl, rf1.rd.o, rfl, .ref W, rfl, a, _, v, k + 1, m, b, W, _, rfl, eW, long, rf1.rd, hb1, fun H2 k2 r2 => ⟨_, rfl, ?_⟩⟩
      have rf2 := rf1.keep k2 r2
      have al : (("in" : PySem.Str) :: xs).all (fun x => nameB (.str x)) = xs.all fun x => nameB (.str x) := by rw [List.all_cons, nin, Bool.true_and]
      rw [al]
      cases hx : xs.all fun x => nameB (.str x) with
      | true =>
        have eW2 := k2.lst eW (rf1.rd.nl _ _ eW)
        refine iteF ⟨.ref W, rfl, 1, rfl, W, _, rfl, SqL.of eW2, fun p hp => .inl ⟨p, _, rfl, SqL.of upd_same, fun u hu2 => ?_⟩⟩
        rw [List.map_cons, cut1] at *
        have k3a : Kept None H2 (upd H2 p (.lst (xs.map V.str))) := Kept.refl.new hp
        have k3 : Kept None H2 (upd (upd H2 p (.lst (xs.map V.str))) u (.tup (xs.map V.str))) := k3a.new (k3a.free hu2)
        exact q n xs u _ hn c2 (fun x hx2 => List.all_eq_true.mp hx x hx2) ((k1.trans k2).trans (k3.weak fun _ z => z.elim)) (rf2.stay k3) upd_same
      | false =>
        have one : 1 ≤ xs.length := by
          cases xs with
          | nil => cases hx
          | cons x r => rw [List.length_cons]; omega
        have bad : badAt (List.replicate (min xs.length 4) .name) xs 2 ≠ 0 := fun e => by
          have := ((bad_names (by decide)).mp e).2
          rw [hx] at this
          cases this
        have eW2 := k2.lst eW (rf1.rd.nl _ _ eW)
        refine iteT ⟨.ref a.p, rfl, a.p, a.dx, _, rfl, rf2.rd.o, rfl, .ref W, rfl, (show 1 ≤ sizeLine by decide), fun T1 hT1 => ⟨.ref W, rfl, W, _, rfl, .inl (SqL.of ((Kept.refl.new hT1 : Kept None H2 (upd H2 T1 (.tup [.str "name"]))).lst eW2 (fun z => z))), _, 1, rfl, rfl, _, 4, rfl, ?_⟩⟩
        show rRepN K (.ref T1) (.int (if (4 : Int) < (((("in" : PySem.Str) :: xs).map V.str).length : Int) - 1 then (4 : Int) else (((("in" : PySem.Str) :: xs).map V.str).length : Int) - 1)) _ _
        rw [emin]
        exact wrong k2 rf2 one bad T1 hT1
end
end K9

set_option Elab.async false
set_option linter.all false
set_option maxRecDepth 100000
set_option maxHeartbeats 4000000
namespace K9
open PySem PySem.Spec PyProof.Rows L2
/-! ### set rows, whichever -/
def kindsW (z : PySem.Str) : List PySem.Str :=
  if z = "number" then ["word"] else if z = "copy" then ["name"] else if z = "up" then ["name", "shift"] else if z = "down" then ["name", "shift"] else if z = "pick" then ["name", "name", "name"] else ["name", "name"]
structure TabX (K : PySem.W.Frag) (w : World) (mg : PySem.Str → Option Value) (D CW : Addr) : Prop where
  d : ∃ es n, KDict K w D es n
  mD : mg "EXPR_PARTS" = some (.ref D)
  yes : ∀ z, exprB z = true → ∃ T, PySem.W.nsIn K D z = some (some (.ref T)) ∧ ∀ H, SqT K H T ((kindsW z).map V.str)
  no : ∀ z, exprB z = false → PySem.W.nsIn K D z = some none
  mC : mg "CLOSING_WORDS" = some (.ref CW)
  c : ∀ H, SqT K H CW [.str "else", .str "end"]
theorem TabX.has {K : PySem.W.Frag} {w : World} {mg : PySem.Str → Option Value} {D CW : Addr} (B : TabX K w mg D CW) (z : PySem.Str) : ∃ r, PySem.W.nsIn K D z = some r ∧ r.isSome = exprB z := by
  cases h : exprB z with
  | true =>
    obtain ⟨T, e, _⟩ := B.yes z h
    exact ⟨_, e, rfl⟩
  | false => exact ⟨_, B.no z h, rfl⟩
/-- a row's expression, of words -/
def ExOk (v : Nat) (ws : List PySem.Str) (vs : List V) : Prop := ∃ e : Ex, e.words = ws ∧ (∀ y ∈ e.names, Nm y) ∧ e.ok v ∧ e.vs = vs
def SoA (v : Nat) (z : PySem.Str) : Prop := ∃ n, kindsW z = List.replicate (n + 1) ("name" : PySem.Str) ∧ exS v z = List.replicate (n + 1) .name ∧ n ≤ 2 ∧ ∀ zs : List PySem.Str, zs.length = n + 1 → zs.all (fun x => nameB (.str x)) = true → ExOk v (z :: zs) ((z :: zs).map V.str)
def SoB (v : Nat) (z : PySem.Str) : Prop := ∃ (n : Nat) (kd : PySem.Str) (lo hi : Nat), kd ≠ "name" ∧ kindsW z = List.replicate n ("name" : PySem.Str) ++ [kd] ∧ exS v z = List.replicate n .name ++ [.num lo hi] ∧ BK (some v) kd lo hi ∧ hi < 4096 ∧ n ≤ 1 ∧
  ∀ (ys : List PySem.Str) (u : PySem.Str) (k : Nat), ys.length = n → ys.all (fun x => nameB (.str x)) = true → numW lo hi u = some k → ExOk v (z :: (ys ++ [u])) ((z :: ys).map V.str ++ [.int (k : Int)])
theorem all_nm {zs : List PySem.Str} (h : zs.all (fun x => nameB (.str x)) = true) : ∀ y ∈ zs, Nm y := fun y hy => List.all_eq_true.mp h y hy
theorem so_two {v : Nat} (o : Op) (h1 : kindsW o.name = List.replicate 2 ("name" : PySem.Str)) (h2 : exS v o.name = List.replicate 2 .name) : SoA v o.name :=
  ⟨1, h1, h2, by decide, fun zs hz ha => by
    match zs, hz with
    | [y, z], _ => exact ⟨.two o y z, rfl, all_nm ha, trivial, rfl⟩⟩
theorem so_cases {v : Nat} (hv : v ≤ 12) {z : PySem.Str} (h : exprB z = true) : SoA v z ∨ SoB v z := by
  have t : 2 ^ v ≤ 4096 := Nat.pow_le_pow_right (n := 2) (i := v) (j := 12) (by decide) hv
  have h := of_decide_eq_true h
  unfold exprWords at h
  simp only [List.mem_cons, List.not_mem_nil, or_false] at h
  rcases h with rfl | rfl | rfl | rfl | rfl | rfl | rfl | rfl | rfl | rfl | rfl | rfl
  · refine .inr ⟨0, "word", 0, 2 ^ v - 1, by decide, rfl, rfl, .word, by omega, by decide, fun ys u k hy _ hk => ?_⟩
    match ys, hy with
    | [], _ =>
      have e := numW_dec hk (by omega)
      have b := (numW_some hk).2.2
      have p := Nat.two_pow_pos v
      exact ⟨.num k, (by rw [e]; rfl), fun y hy => (by cases hy), (by omega : k < 2 ^ v), rfl⟩
  · refine .inl ⟨0, rfl, rfl, by decide, fun zs hz ha => ?_⟩
    match zs, hz with
    | [y], _ => exact ⟨.copy y, rfl, all_nm ha, trivial, rfl⟩
  · exact .inl (so_two .add rfl rfl)
  · exact .inl (so_two .less rfl rfl)
  · exact .inl (so_two .and rfl rfl)
  · exact .inl (so_two .or rfl rfl)
  · exact .inl (so_two .unlike rfl rfl)
  · exact .inl (so_two .same rfl rfl)
  · exact .inl (so_two .below rfl rfl)
  · refine .inr ⟨1, "shift", 0, 11, by decide, rfl, rfl, .shift, by decide, by decide, fun ys u k hy ha hk => ?_⟩
    match ys, hy with
    | [y], _ => exact ⟨.up y k, by rw [numW_dec hk (by decide)]; rfl, all_nm ha, (numW_some hk).2.2, rfl⟩
  · refine .inr ⟨1, "shift", 0, 11, by decide, rfl, rfl, .shift, by decide, by decide, fun ys u k hy ha hk => ?_⟩
    match ys, hy with
    | [y], _ => exact ⟨.down y k, by rw [numW_dec hk (by decide)]; rfl, all_nm ha, (numW_some hk).2.2, rfl⟩
  · refine .inl ⟨2, rfl, rfl, by decide, fun zs hz ha => ?_⟩
    match zs, hz with
    | [c, y, z], _ => exact ⟨.pick c y z, rfl, all_nm ha, trivial, rfl⟩
theorem expr_nm {z : PySem.Str} (h : exprB z = true) : nameB (.str z) = true := by
  have h := of_decide_eq_true h
  have q : exprWords.all (fun x => nameB (.str x)) = true := by decide +kernel
  exact List.all_eq_true.mp q z h
end K9

set_option Elab.async false
set_option linter.all false
set_option maxRecDepth 100000
set_option maxHeartbeats 4000000
namespace K9
open PySem PySem.Spec PyProof.Rows L2
def spSetX (C CB : Addr) : Sp := fun vs H Q E => ∃ (a : Ad) (A : List (List PySem.Str)) (v k m b ln : Nat) (W : Addr) (r : List PySem.Str), vs = [.ref a.p, .ref W] ∧ H W = some (.lst ((("set" : PySem.Str) :: r).map V.str)) ∧ v ≤ 12 ∧
  Rf C a A (some v) (k + 1) m b H ∧ Sz A ∧ (numb 1 A)[k]? = some (ln, ("set" : PySem.Str) :: r) ∧ b + (r.length + 1) ≤ 2000000 ∧ (badAt (setS v r) r 2 ≠ 0 → Rz CB a H E ln (badAt (setS v r) r 2)) ∧
  ∀ x e p q H', r = x :: Ex.words e → Nm x → (∀ y ∈ e.names, Nm y) → e.ok v → Kept (At3 a) H H' → Rf C a A (some v) (k + 1) m (b + (r.length + 1)) H' → H' p = some (.tup [.str "set", .str x, .ref q]) → H' q = some (.tup e.vs) → Q (.ref p) H'
theorem kinds_ne (z : PySem.Str) : kindsW z ≠ [] := by
  unfold kindsW
  repeat' split
  all_goals exact fun h => by cases h
theorem kinds_len {v : Nat} (z : PySem.Str) : (kindsW z).length = (exS v z).length ∧ (kindsW z).length ≤ 3 := by
  unfold kindsW exS
  repeat' split
  all_goals exact ⟨rfl, by decide⟩
theorem soks_W {v : Nat} (z : PySem.Str) : SoKs (some v) (kindsW z) (exS v z) := by
  unfold kindsW exS
  repeat' split
  · exact .cons (.num .word) .nil
  · exact .cons .name .nil
  · exact .cons .name (.cons (.num .shift) .nil)
  · exact .cons .name (.cons (.num .shift) .nil)
  · exact .cons .name (.cons .name (.cons .name .nil))
  · exact .cons .name (.cons .name .nil)
theorem setS_two {v : Nat} {x z : PySem.Str} {zs : List PySem.Str} : setS v (x :: z :: zs) = .name :: .expr :: exS v z := rfl
/-- with no expression's word there, what is wanted behind it doesn't matter -/
theorem bad_noexpr {v : Nat} {r : List PySem.Str} (h : ∀ z, r[1]? = some z → exprB z = false) : badAt (setS v r) r 2 = badAt [.name, .expr] r 2 ∧ badAt [.name, .expr] r 2 ≠ 0 := by
  match r, h with
  | [], _ => exact ⟨rfl, by unfold badAt; decide⟩
  | [x], _ =>
    unfold setS badAt
    cases So.fits .name x with
    | true => exact ⟨rfl, by show badAt [.expr] [] 3 ≠ 0; unfold badAt; decide⟩
    | false => exact ⟨rfl, by show (2 : Nat) ≠ 0; decide⟩
  | x :: z :: zs, h =>
    have hz : So.fits .expr z = false := h z rfl
    rw [setS_two]
    unfold badAt
    cases So.fits .name x with
    | true =>
      rw [if_pos rfl, if_pos rfl]
      unfold badAt
      rw [hz, if_neg Bool.false_ne_true, if_neg Bool.false_ne_true]
      exact ⟨rfl, by decide⟩
    | false =>
      rw [if_neg Bool.false_ne_true, if_neg Bool.false_ne_true]
      exact ⟨rfl, by decide⟩
theorem rep_snoc {α : Type} (n : Nat) (x : α) : List.replicate (n + 1) x = List.replicate n x ++ [x] := List.replicate_succ'
theorem getLast_split {zs : List PySem.Str} {n : Nat} (h : zs.length = n + 1) : ∃ ys u, zs = ys ++ [u] ∧ ys.length = n := by
  have hne : zs ≠ [] := fun e => by rw [e] at h; cases h
  refine ⟨zs.dropLast, zs.getLast hne, (List.dropLast_concat_getLast hne).symm, by rw [List.length_dropLast, h]; rfl⟩
section
variable {P : Program} {w : World} {K : PySem.W.Frag} {mg : PySem.Str → Option Value} {base : Heap} {f fR fW fT fA fO fB C CB D CW : Addr} {fd fdR fdW fdT fdA fdO fdB : FuncData}
theorem ok_setX (F : FnM K "read_set" "Text.read_set" sReadSet f fd) (T : TxC K mg C) (B : TabX K w mg D CW) (mO : Meth K C "number_of" fO) (GO : FnOk P w K mg base CX0 4 fO fdO ["self", "word", "kind"] (spNumO C)) (bO : Binds K fdO ["self", "word", "kind"] []) (mA : Meth K C "are_names" fA) (GA : FnOk P w K mg base CX0 3 fA fdA ["self", "words"] (spAll C)) (bA : Binds K fdA ["self", "words"] [])
    (mW : Meth K C "refuse_first_wrong" fW) (GW : FnOk P w K mg base (L2.CX P w) 6 fW fdW ["self", "words", "kinds"] (spRfw K C CB)) (bW : Binds K fdW ["self", "words", "kinds"] []) (m_len : mg "len" = none) (m_tuple : mg "tuple" = none) : FnOk P w K mg base (L2.CX P w) 7 f fd ["self", "words"] (spSetX C CB) := by
  refine F.ok (k := 6) scReadSet (fun vs H Q E h => ?_) (fun cdv A outer s H vs Q E hr h => ?_)
  · obtain ⟨a, A, v, k, m, b, ln, W, r, rfl, _⟩ := h
    rfl
  · obtain ⟨a, A, v, k, m, b, ln, W, r, rfl, eW, hv, rf, sz, hn, hb, e1, q⟩ := h
    refine ⟨_, pss_cons (ps_set (i := 2) scReadSet.nd rfl (Or.inl rfl) (pe_ifExp (pt_cmpR op_gt (pe_callB call_len_seq (by rfl) m_len PySem.boot_len (pa_cons (pv 1) pa_nil)) pe_int (nomark _)) (pe_kgetD (pe_glob (v := .ref D) (by rfl) B.mD rfl) (pe_ix ix_list (pv 1) pe_int (fun _ _ => rfl)) (pe_tup pa_nil) ⟨rfl, rfl, rfl, rfl⟩) (pe_tup pa_nil)))
    (pss_cons (ps_if (PW.pt (pw_and (pt_truth (pv 2) (fun _ => rfl)) (pw_and1 (pt_cmpR op_eq (pe_callB call_len_seq (by rfl) m_len PySem.boot_len (pa_cons (pv 1) pa_nil)) (pe_op op_add (pe_callB call_len_seq (by rfl) m_len PySem.boot_len (pa_cons (pv 2) pa_nil)) pe_int) (nomark _)))))
      (pss_one (ps_if (pt_cmpR op_eq (pe_ix ix_tup (pv 2) (pe_un un_neg pe_int) (fun _ _ => rfl)) pe_str (nomark _))
        (pss_one (ps_if (pt_val (pe_meth (pv 0) T.cl mA (GA.mono (by decide)) hr bA .nil pass0 (pa_cons (pv 1) pa_nil)))
          (pss_one (ps_ret (pe_tup (pa_cons pe_str (pa_cons (pe_ix ix_list (pv 1) pe_int (fun _ _ => rfl)) (pa_cons (pe_tupleOf (by rfl) m_tuple (pe_slice sl_list (pv 1) (po_some pe_int) po_none)) pa_nil))))))
          pss_nil))
        (pss_cons (ps_set (i := 3) scReadSet.nd rfl (Or.inl rfl) (pe_meth (pv 0) T.cl mO (GO.mono (by decide)) hr bO .nil pass0 (pa_cons (pe_ix ix_list (pv 1) (pe_un un_neg pe_int) (fun _ _ => rfl)) (pa_cons (pe_ix ix_tup (pv 2) (pe_un un_neg pe_int) (fun _ _ => rfl)) pa_nil))))
        (pss_one (ps_if (PW.pt (pw_and (pt_cmpR op_notN (pv 3) pe_non (nomark _)) (pw_and1 (pt_val (pe_meth (pv 0) T.cl mA (GA.mono (by decide)) hr bA .nil pass0 (pa_cons (pe_slice sl_list (pv 1) po_none (po_some (pe_un un_neg pe_int))) pa_nil))))))
          (pss_one (ps_ret (pe_tup (pa_cons pe_str (pa_cons (pe_ix ix_list (pv 1) pe_int (fun _ _ => rfl)) (pa_cons (pe_tupleOf (by rfl) m_tuple (pe_op op_cat (pe_slice sl_list (pv 1) (po_some pe_int) (po_some (pe_un un_neg pe_int))) (pe_lst (pa_cons (pv 3) pa_nil)))) pa_nil))))))
          pss_nil)))))
      pss_nil)
    (pss_one (ps_expr (pe_meth (pv 0) T.cl mW GW hr bW .nil (passes_call (takes_of rfl rfl rfl rfl) (fun _ _ _ _ h => h)) (pa_cons (pv 1) (pa_cons (pe_op op_catT (pe_tup (pa_cons pe_str (pa_cons pe_str pa_nil))) (pv 2)) pa_nil)))))), ?_⟩
    have szl := sizeLine_eq
    have long := sz.line hn
    have nset : nameB (.str "set") = true := nm_set
    have hW3 : ¬ At3 a W := rf.rd.nl _ _ eW
    -- the last row: refused
    have last : ∀ (n : Option V) {b' : Nat} {H1 : Hp} {T2 : Addr} (kinds : List PySem.Str) (ks : List So), Kept (At3 a) H H1 → Rf C a A (some v) (k + 1) m b' H1 → SqT K H1 T2 (kinds.map V.str) → SoKs (some v) kinds ks → kinds.length ≤ 3 → badAt (.name :: .expr :: ks) r 2 = badAt (setS v r) r 2 → badAt (setS v r) r 2 ≠ 0 →
        tDrop (tMeth C "refuse_first_wrong" (spRfw K C CB) [] E (tVar 0) (tCons (tVar 1) (tCons (tOp (rCatT K) (tTup (tCons (tC (.str "name")) (tCons (tC (.str "expr")) tNil))) (tVar 2)) tNil))) { nx := fun _ H' => Q .non H', rt := Q } [some (.ref a.p), some (.ref W), some (.ref T2), n] H1 := fun n b' H1 T2 kinds ks k1 rf1 hT sk kl eb bad => by
      have eW1 := k1.lst eW hW3
      have e2 := e1 bad
      rw [← eb] at bad e2
      refine ⟨.ref a.p, rfl, a.p, a.dx, _, rfl, rf1.rd.o, rfl, .ref W, rfl, (show 2 ≤ sizeLine by decide), fun T1 hT1 => ?_⟩
      have k3 : Kept None H1 (upd H1 T1 (.tup [.str "name", .str "expr"])) := Kept.refl.new hT1
      refine ⟨.ref T2, rfl, T1, T2, _, _, rfl, rfl, SqT.of upd_same, k3.sqt hT (fun z => z), (fun z => by cases z), (by rw [List.length_map]; show 2 + kinds.length ≤ sizeLine; omega), fun he => ?_, fun _ p hp => ?_⟩
      · have hk : kinds = [] := List.map_eq_nil_iff.mp he
        subst hk
        cases sk
        exact ⟨a, A, some v, k, m, b', ln, W, T1, "set", r, ["name", "expr"], [.name, .expr], rfl, k3.lst eW1 (fun z => z), SqT.of upd_same, .cons .name (.cons .expr .nil), by decide, fun x hx => long x (List.mem_cons_of_mem _ hx), rf1.stay k3, sz, hn, bad, (e2.of k1).of0 k3⟩
      · have k4 := k3.trans (Kept.refl.new hp (o := .tup ([.str "name", .str "expr"] ++ kinds.map V.str)))
        exact ⟨a, A, some v, k, m, b', ln, W, p, "set", r, "name" :: "expr" :: kinds, .name :: .expr :: ks, rfl, k4.lst eW1 (fun z => z), SqT.of upd_same, .cons .name (.cons .expr sk), by rw [List.length_cons, List.length_cons, ← sk.len]; omega, fun x hx => long x (List.mem_cons_of_mem _ hx), rf1.stay k4, sz, hn, bad, (e2.of k1).of0 k4⟩
    have szE := sizeLine_eq
    match r, eW, hn, hb, e1, q, long, last with
    | [], eW, hn, hb, e1, q, long, last =>
      refine ⟨.ref W, rfl, W, _, rfl, .inl (SqL.of eW), _, 2, rfl, rfl, _, rfl, ?_⟩
      rw [show decide _ = false from decide_eq_false (by simp only [List.length_map, List.length_cons, List.length_nil]; omega)]
      refine iteF ⟨Nat.zero_le _, fun p0 hp0 => ?_⟩
      have k0 : Kept None H (upd H p0 (.tup [])) := Kept.refl.new hp0
      refine ⟨.ref p0, rfl, false, .inr (.inl ⟨[], SqT.of upd_same, rfl⟩), iteF ?_⟩
      obtain ⟨b1, b2⟩ := bad_noexpr (v := v) (r := []) (fun z h => by cases h)
      exact last _ [] [] (k0.weak fun _ y => y.elim) (rf.stay k0) (SqT.of upd_same) .nil (by decide) b1.symm (by rw [b1]; exact b2)
    | [x], eW, hn, hb, e1, q, long, last =>
      refine ⟨.ref W, rfl, W, _, rfl, .inl (SqL.of eW), _, 2, rfl, rfl, _, rfl, ?_⟩
      rw [show decide _ = false from decide_eq_false (by simp only [List.length_map, List.length_cons, List.length_nil]; omega)]
      refine iteF ⟨Nat.zero_le _, fun p0 hp0 => ?_⟩
      have k0 : Kept None H (upd H p0 (.tup [])) := Kept.refl.new hp0
      refine ⟨.ref p0, rfl, false, .inr (.inl ⟨[], SqT.of upd_same, rfl⟩), iteF ?_⟩
      obtain ⟨b1, b2⟩ := bad_noexpr (v := v) (r := [x]) (fun z h => by cases h)
      exact last _ [] [] (k0.weak fun _ y => y.elim) (rf.stay k0) (SqT.of upd_same) .nil (by decide) b1.symm (by rw [b1]; exact b2)
    | x :: z :: zs, eW, hn, hb, e1, q, long, last =>
      refine ⟨.ref W, rfl, W, _, rfl, .inl (SqL.of eW), _, 2, rfl, rfl, _, rfl, ?_⟩
      rw [show decide _ = true from decide_eq_true (by simp only [List.length_map, List.length_cons]; omega)]
      refine iteT ⟨D, rfl, B.d, .ref W, rfl, W, _, 2, .str z, rfl, rfl, SqL.of eW, atI_nat (j := 2) rfl, z, rfl, Nat.zero_le _, fun p0 hp0 => ?_⟩
      have k0 : Kept None H (upd H p0 (.tup [])) := Kept.refl.new hp0
      have rf0 := rf.stay k0
      have eP : upd H p0 (.tup []) p0 = some (.tup []) := upd_same
      replace eW := k0.lst eW (fun z => z)
      generalize upd H p0 (.tup []) = H0 at k0 rf0 eW eP ⊢
      have ka0 : Kept (At3 a) H H0 := k0.weak fun _ y => y.elim
      cases hz : exprB z with
      | false =>
        refine ⟨none, B.no z hz, fun u0 h => (by cases h), fun _ => ?_⟩
        refine ⟨.ref p0, rfl, false, .inr (.inl ⟨[], SqT.of eP, rfl⟩), iteF ?_⟩
        obtain ⟨b1, b2⟩ := bad_noexpr (v := v) (r := x :: z :: zs) (fun y h => by cases h; exact hz)
        exact last _ [] [] ka0 rf0 (SqT.of eP) .nil (by decide) b1.symm (by rw [b1]; exact b2)
      | true =>
        obtain ⟨T2, t1, t2⟩ := B.yes z hz
        obtain ⟨kl, k3⟩ := kinds_len (v := v) z
        refine ⟨_, t1, fun u0 h => ⟨.ref T2, (by cases h; rfl), ?_⟩, fun h => (by cases h)⟩
        have wrong : ∀ (n : Option V) {b' : Nat} {H1 : Hp}, Kept (At3 a) H H1 → Rf C a A (some v) (k + 1) m b' H1 → badAt (setS v (x :: z :: zs)) (x :: z :: zs) 2 ≠ 0 → _ := fun n b' H1 k1 rf1 bad => last n (kindsW z) (exS v z) k1 rf1 (t2 H1) (soks_W z) k3 rfl bad
        have em : ((kindsW z).map V.str).isEmpty = false := by
          cases hk : kindsW z with
          | nil => exact absurd hk (kinds_ne z)
          | cons _ _ => rfl
        refine ⟨.ref T2, rfl, true, .inr (.inl ⟨_, t2 _, by rw [em]; rfl⟩), iteT ⟨.ref W, rfl, W, _, rfl, .inl (SqL.of eW), .ref T2, rfl, T2, _, rfl, .inr (t2 _), _, 3, rfl, rfl, rfl, _, rfl, ite2 (fun c => ?_) (fun c => ?_)⟩⟩
        rotate_left
        · have bad : badAt (setS v (x :: z :: zs)) (x :: z :: zs) 2 ≠ 0 := fun e => c (decide_eq_true (by
            have := (bad0 (by decide) e).1
            rw [setS_two] at this
            simp only [List.length_cons] at this
            simp only [List.length_map, List.length_cons]
            congr 1
            omega))
          exact wrong none ka0 rf0 bad
        have zl : zs.length = (exS v z).length := by
          have := V.int.inj (of_decide_eq_true c)
          simp only [List.length_map, List.length_cons] at this
          omega
        rcases so_cases hv hz with ⟨n, f1, f2, f3, f4⟩ | ⟨n, kd, lo, hi, g1, g2, g3, g4, g5, g6, g7⟩
        · rw [f2, List.length_replicate] at zl
          refine ⟨.ref T2, rfl, 1, rfl, T2, _, -1, .str "name", rfl, rfl, t2 _, ?_, ?_⟩
          · rw [f1, rep_snoc, List.map_append]; exact atI_last _ _
          refine ⟨rfl, _, rfl, ite2 (fun _ => ?_) (fun y => absurd (decide_eq_true rfl) y)⟩
          refine ⟨.ref a.p, rfl, a.p, a.dx, _, rfl, rf0.rd.o, rfl, .ref W, rfl, a, _, some v, k + 1, m, b, W, _, rfl, eW, long, rf0.rd, hb, fun H1 k1 r1 => ⟨_, rfl, ?_⟩⟩
          have rf1 := rf0.keep k1 r1
          have al : (("set" : PySem.Str) :: x :: z :: zs).all (fun x => nameB (.str x)) = (nameB (.str x) && zs.all fun x => nameB (.str x)) := by rw [List.all_cons, List.all_cons, List.all_cons, nset, expr_nm hz, Bool.true_and, Bool.true_and]
          rw [al]
          cases hall : (nameB (.str x) && zs.all fun x => nameB (.str x)) with
          | false =>
            refine iteF (wrong none (ka0.trans k1) rf1 fun e => ?_)
            obtain ⟨b1, b2⟩ := bad0 (by decide) e
            rw [setS_two] at b1 b2
            have hx : nameB (.str x) = true := b2 0 .name x rfl rfl
            have hzs : zs.all (fun x => nameB (.str x)) = true := List.all_eq_true.mpr fun y hy => by
              obtain ⟨j, hj⟩ := List.getElem?_of_mem hy
              have hjn : j < n + 1 := by rw [← zl]; exact (List.getElem?_eq_some_iff.mp hj).1
              exact b2 (j + 2) .name y (by rw [f2]; show (List.replicate (n + 1) So.name)[j]? = _; rw [List.getElem?_replicate, if_pos hjn]) hj
            rw [hx, hzs] at hall
            cases hall
          | true =>
            obtain ⟨hx, hzs⟩ := Bool.and_eq_true_iff.mp hall
            obtain ⟨e, w1, w2, w3, w4⟩ := f4 zs zl hzs
            have eW1 := k1.lst eW hW3
            refine iteT ⟨.ref W, rfl, W, _, 1, .str x, rfl, rfl, SqL.of eW1, atI_nat (j := 1) rfl, .ref W, rfl, 2, rfl, W, _, rfl, SqL.of eW1, fun l hl => .inl ⟨l, _, rfl, SqL.of upd_same, fun u hu2 => ⟨(show 3 ≤ sizeLine by decide), fun p hp => ?_⟩⟩⟩
            rw [List.map_cons, List.map_cons, cut2] at *
            have kb := (Kept.refl (D := None) (H := H1)).new hl (o := .lst ((z :: zs).map V.str))
            have kc := kb.new (kb.free hu2) (o := .tup ((z :: zs).map V.str))
            have kd' := kc.new (kc.free hp) (o := .tup [.str "set", .str x, .ref u])
            refine q x e p u _ (by rw [w1]) hx w2 w3 (ka0.trans (k1.trans (kd'.weak fun _ y => y.elim))) (rf1.stay kd') upd_same ?_
            rw [upd_ne (ne_of_none upd_same hp), w4]
            exact upd_same
        · rw [g3, List.length_append, List.length_replicate] at zl
          obtain ⟨ys, u, rfl, yl⟩ := getLast_split zl
          refine ⟨.ref T2, rfl, 1, rfl, T2, _, -1, .str kd, rfl, rfl, t2 _, ?_, ?_⟩
          · rw [g2, List.map_append]; exact atI_last _ _
          refine ⟨rfl, _, rfl, ite2 (fun y => absurd (V.str.inj (of_decide_eq_true y)) g1) (fun _ => ?_)⟩
          have sW : ((("set" : PySem.Str) :: x :: z :: (ys ++ [u])).map V.str) = .str "set" :: .str x :: ((z :: ys).map V.str ++ [.str u]) := by simp
          have eW' := eW
          rw [sW] at eW'
          have fitsU : badAt (setS v (x :: z :: (ys ++ [u]))) (x :: z :: (ys ++ [u])) 2 = 0 → nameB (.str x) = true ∧ ys.all (fun x => nameB (.str x)) = true ∧ (numW lo hi u).isSome = true := fun e => by
            obtain ⟨b1, b2⟩ := bad0 (by decide) e
            rw [setS_two, g3] at b1 b2
            refine ⟨b2 0 .name x rfl rfl, List.all_eq_true.mpr fun y hy => ?_, ?_⟩
            · obtain ⟨j, hj⟩ := List.getElem?_of_mem hy
              have hjn : j < n := by rw [← yl]; exact (List.getElem?_eq_some_iff.mp hj).1
              refine b2 (j + 2) .name y ?_ ?_
              · show (List.replicate n So.name ++ [.num lo hi])[j]? = _
                rw [List.getElem?_append_left (by rw [List.length_replicate]; exact hjn), List.getElem?_replicate, if_pos hjn]
              · show (ys ++ [u])[j]? = _
                rw [List.getElem?_append_left (by rw [yl]; exact hjn)]
                exact hj
            · refine b2 (n + 2) (.num lo hi) u ?_ ?_
              · show (List.replicate n So.name ++ [.num lo hi])[n]? = _
                rw [List.getElem?_append_right (by rw [List.length_replicate]; exact Nat.le_refl _), List.length_replicate, Nat.sub_self]
                rfl
              · show (ys ++ [u])[n]? = _
                rw [List.getElem?_append_right (by rw [yl]; exact Nat.le_refl _), yl, Nat.sub_self]
                rfl
          refine ⟨.ref a.p, rfl, a.p, a.dx, _, rfl, rf0.rd.o, rfl, .ref W, rfl, 1, rfl, W, _, -1, .str u, rfl, rfl, SqL.of eW', ?_, .ref T2, rfl, 1, rfl, T2, _, -1, .str kd, rfl, rfl, t2 _, ?_, a, _, some v, k + 1, m, b, lo, hi, u, kd, rfl, long u (by simp), rf0.rd, g4, fun H1 k1 => ?_⟩
          · exact atI_last (.str "set" :: .str x :: (z :: ys).map V.str) _
          · rw [g2, List.map_append]; exact atI_last _ _
          have rf1 := rf0.stay k1
          have eW1 := k1.lst eW' (fun y => y)
          have kaa : Kept (At3 a) H H1 := ka0.trans (k1.weak fun _ y => y.elim)
          cases hu : numW lo hi u with
          | none =>
            refine ⟨.non, rfl, rfl, _, rfl, iteF (wrong _ kaa rf1 fun e => ?_)⟩
            have := (fitsU e).2.2
            rw [hu] at this
            cases this
          | some c =>
            refine ⟨.int (c : Int), rfl, rfl, _, rfl, iteT ?_⟩
            refine ⟨.ref a.p, rfl, a.p, a.dx, _, rfl, rf1.rd.o, rfl, .ref W, rfl, 1, rfl, -1, rfl, W, _, rfl, SqL.of eW1, fun l hl => ?_⟩
            have cE : cutV (.str "set" :: .str x :: ((z :: ys).map V.str ++ [.str u])) none (some (-1)) = (("set" : PySem.Str) :: x :: z :: ys).map V.str := cutE (l := .str "set" :: .str x :: (z :: ys).map V.str)
            rw [cE]
            have ka : Kept None H1 (upd H1 l (.lst ((("set" : PySem.Str) :: x :: z :: ys).map V.str))) := Kept.refl.new hl
            have rfa := rf1.stay ka
            have eL : upd H1 l (.lst ((("set" : PySem.Str) :: x :: z :: ys).map V.str)) l = some (.lst ((("set" : PySem.Str) :: x :: z :: ys).map V.str)) := upd_same
            have eW2 := ka.lst eW1 (fun y => y)
            generalize upd H1 l (.lst ((("set" : PySem.Str) :: x :: z :: ys).map V.str)) = H2 at ka rfa eL eW2 ⊢
            refine ⟨a, _, some v, k + 1, m, b, l, ("set" : PySem.Str) :: x :: z :: ys, rfl, eL, fun y hy => long y ?_, rfa.rd, ?_, fun H3 k3 r3 => ⟨_, rfl, ?_⟩⟩
            · simp only [List.mem_cons, List.mem_append] at hy ⊢
              rcases hy with h | h | h | h
              · exact .inl h
              · exact .inr (.inl h)
              · exact .inr (.inr (.inl h))
              · exact .inr (.inr (.inr (.inl h)))
            · simp only [List.length_cons, List.length_append, List.length_nil] at hb ⊢
              omega
            have rf3 := (rfa.keep k3 r3).more (b' := b + ((x :: z :: (ys ++ [u])).length + 1)) (by simp only [List.length_cons, List.length_append]; omega)
            have kbb : Kept (At3 a) H H3 := kaa.trans ((ka.weak fun _ y => y.elim).trans k3)
            have al : (("set" : PySem.Str) :: x :: z :: ys).all (fun x => nameB (.str x)) = (nameB (.str x) && ys.all fun x => nameB (.str x)) := by rw [List.all_cons, List.all_cons, List.all_cons, nset, expr_nm hz, Bool.true_and, Bool.true_and]
            rw [al]
            cases hall : (nameB (.str x) && ys.all fun x => nameB (.str x)) with
            | false =>
              refine iteF (wrong _ kbb rf3 fun e => ?_)
              obtain ⟨p1, p2, _⟩ := fitsU e
              rw [p1, p2] at hall
              cases hall
            | true =>
              obtain ⟨hx, hys⟩ := Bool.and_eq_true_iff.mp hall
              obtain ⟨e, w1, w2, w3, w4⟩ := g7 ys u c yl hys hu
              have eW3 := k3.lst eW2 hW3
              refine iteT ⟨.ref W, rfl, W, _, 1, .str x, rfl, rfl, SqL.of eW3, atI_nat (j := 1) rfl, .ref W, rfl, 2, rfl, 1, rfl, -1, rfl, W, _, rfl, SqL.of eW3, fun l1 hl1 => ?_⟩
              rw [show cutV (.str "set" :: .str x :: ((z :: ys).map V.str ++ [.str u])) (some 2) (some (-1)) = (z :: ys).map V.str from cut2E]
              have kb : Kept None H3 (upd H3 l1 (.lst ((z :: ys).map V.str))) := Kept.refl.new hl1
              refine ⟨.int (c : Int), rfl, (show 1 ≤ sizeLine by decide), fun l2 hl2 => ?_⟩
              have e1a : upd (upd H3 l1 (.lst ((z :: ys).map V.str))) l2 (.lst [.int (c : Int)]) l1 = some (.lst ((z :: ys).map V.str)) := by rw [upd_ne (ne_of_none upd_same hl2)]; exact upd_same
              have kc := kb.new (kb.free hl2) (o := .lst [.int (c : Int)])
              refine ⟨l1, l2, _, _, rfl, rfl, e1a, upd_same, (by simp only [List.length_map, List.length_cons, List.length_nil]; omega), fun l3 hl3 => .inl ⟨l3, _, rfl, SqL.of upd_same, fun u2 hu2 => ⟨(show 3 ≤ sizeLine by decide), fun p hp => ?_⟩⟩⟩
              have kd1 := kc.new (kc.free hl3) (o := .lst ((z :: ys).map V.str ++ [.int (c : Int)]))
              have ke := kd1.new (kd1.free hu2) (o := .tup ((z :: ys).map V.str ++ [.int (c : Int)]))
              have kf := ke.new (ke.free hp) (o := .tup [.str "set", .str x, .ref u2])
              refine q x e p u2 _ (by rw [w1]) hx w2 w3 (kbb.trans (kf.weak fun _ y => y.elim)) (rf3.stay kf) upd_same ?_
              rw [upd_ne (ne_of_none upd_same hp), w4]
              exact upd_same
end
end K9

set_option Elab.async false
set_option linter.all false
set_option maxRecDepth 100000
set_option maxHeartbeats 4000000
namespace K9
open PySem PySem.Spec PyProof.Rows L2
abbrev sReadRows : Stmt := inClass (top 30) 3
theorem scReadRows : FnScope ["self", "deep", "rounds", "found", "lines", "most", "words", "word"] ["self", "deep", "rounds"] (defScope sReadRows) := ⟨rfl, rfl, rfl, by decide +kernel, rfl, by decide +kernel, by decide +kernel⟩
abbrev sReadIf : Stmt := inClass (top 30) 5
theorem scReadIf : FnScope ["self", "words", "deep", "rounds", "name", "first", "second"] ["self", "words", "deep", "rounds"] (defScope sReadIf) := ⟨rfl, rfl, rfl, by decide +kernel, rfl, by decide +kernel, by decide +kernel⟩
abbrev sReadRound : Stmt := inClass (top 30) 6
theorem scReadRound : FnScope ["self", "words", "deep", "rounds", "goings", "rows"] ["self", "words", "deep", "rounds"] (defScope sReadRound) := ⟨rfl, rfl, rfl, by decide +kernel, rfl, by decide +kernel, by decide +kernel⟩
/-! ### rows, at any depth -/
def Stop (r : List (List PySem.Str)) : Prop := r = [] ∨ ∃ r', r = [("else" : PySem.Str)] :: r' ∨ r = [("end" : PySem.Str)] :: r'
theorem nm_if : Nm "if" := by unfold Nm; decide +kernel
theorem nm_tell : Nm "tell" := by unfold Nm; decide +kernel
theorem at_drop {ls : List (List PySem.Str)} {k : Nat} {l : List PySem.Str} {r : List (List PySem.Str)} (h : ls.drop k = l :: r) : ls[k]? = some l := by
  have := congrArg (fun z => z[0]?) h
  simp only [List.getElem?_drop, Nat.add_zero, List.getElem?_cons_zero] at this
  exact this
theorem drop_one {ls : List (List PySem.Str)} {k : Nat} {l : List PySem.Str} {r : List (List PySem.Str)} (h : ls.drop k = l :: r) : ls.drop (k + 1) = r := by
  rw [← List.drop_drop, h]; rfl
theorem drop_more {ls : List (List PySem.Str)} {k : Nat} {l r : List (List PySem.Str)} (h : ls.drop k = l ++ r) : ls.drop (k + l.length) = r := by
  rw [← List.drop_drop, h]; exact List.drop_left
theorem Rd.ntup {C : Addr} {a : Ad} {ls : List (List PySem.Str)} {v : Option Nat} {k m b : Nat} {H : Hp} (r : Rd C a ls v k m b H) (p : Addr) (ys : List V) (h : H p = some (.tup ys)) : ¬ At3 a p := by
  rintro (z | z)
  · rw [z, r.o] at h; cases h
  · obtain ⟨_, n1, _⟩ := r.n
    rw [z, n1] at h; cases h
theorem Rd.nlst {C : Addr} {a : Ad} {ls : List (List PySem.Str)} {v : Option Nat} {k m b : Nat} {H : Hp} (r : Rd C a ls v k m b H) (p : Addr) (ys : List V) (h : H p = some (.lst ys)) : ¬ At3 a p := by
  rintro (z | z)
  · rw [z, r.o] at h; cases h
  · obtain ⟨_, n1, _⟩ := r.n
    rw [z, n1] at h; cases h
def spReadRows (C : Addr) (n : Nat) : Sp := fun vs H Q _ => ∃ (a : Ad) (ls : List (List PySem.Str)) (v k m d r : Nat) (t : Tr) (rest : List (List PySem.Str)), vs = [.ref a.p, .int (d : Int), .int (r : Int)] ∧ d + n = 8 ∧ 1 ≤ n ∧ Rd C a ls (some v) k m (10 * m + 10) H ∧ v ≤ 12 ∧ ls.drop k = t.lines ++ rest ∧ Stop rest ∧ m + t.all ≤ 60 ∧ t.fine v d r ∧
  ∀ (p : Addr) (xs : List V) H', Kept (At3 a) H H' → Rd C a ls (some v) (k + t.lines.length) (m + t.all) (10 * (m + t.all) + 10) H' → H' p = some (.tup xs) → Its H' xs t → Q (.ref p) H'
def spReadIf (C : Addr) (n : Nat) : Sp := fun vs H Q _ => ∃ (a : Ad) (ls : List (List PySem.Str)) (v k m d r : Nat) (W : Addr) (x : PySem.Str) (ta tb : Tr) (rest : List (List PySem.Str)), vs = [.ref a.p, .ref W, .int (d : Int), .int (r : Int)] ∧ d + n = 7 ∧ 1 ≤ n ∧ H W = some (.lst [.str "if", .str x]) ∧ Nm x ∧ Rd C a ls (some v) k (m + 1) (10 * m + 10) H ∧ v ≤ 12 ∧ ls.drop k = ta.lines ++ [("else" : PySem.Str)] :: (tb.lines ++ [("end" : PySem.Str)] :: rest) ∧ m + 1 + ta.all + tb.all ≤ 60 ∧ ta.fine v (d + 1) r ∧ tb.fine v (d + 1) r ∧
  ∀ (p q1 q2 : Addr) (xs ys : List V) H', Kept (At3 a) H H' → Rd C a ls (some v) (k + ta.lines.length + 1 + tb.lines.length + 1) (m + 1 + ta.all + tb.all) (10 * (m + 1 + ta.all + tb.all) + 10) H' → H' p = some (.tup [.str "if", .str x, .ref q1, .ref q2]) → H' q1 = some (.tup xs) → H' q2 = some (.tup ys) → Its H' xs ta → Its H' ys tb → Q (.ref p) H'
def spReadRound (C : Addr) (n : Nat) : Sp := fun vs H Q _ => ∃ (a : Ad) (ls : List (List PySem.Str)) (v k m d r c : Nat) (W : Addr) (ta : Tr) (rest : List (List PySem.Str)), vs = [.ref a.p, .ref W, .int (d : Int), .int (r : Int)] ∧ d + n = 7 ∧ 1 ≤ n ∧ H W = some (.lst [.str "round", .str (dec c)]) ∧ c ≤ 12 ∧ Rd C a ls (some v) k (m + 1) (10 * m + 10) H ∧ v ≤ 12 ∧ ls.drop k = ta.lines ++ [("end" : PySem.Str)] :: rest ∧ m + 1 + ta.all ≤ 60 ∧ ta.fine v (d + 1) (r + 1) ∧
  ∀ (p q1 : Addr) (xs : List V) H', Kept (At3 a) H H' → Rd C a ls (some v) (k + ta.lines.length + 1) (m + 1 + ta.all) (10 * (m + 1 + ta.all) + 10) H' → H' p = some (.tup [.str "round", .int (c : Int), .ref q1]) → H' q1 = some (.tup xs) → Its H' xs ta → Q (.ref p) H'
section
variable {P : Program} {w : World} {K : PySem.W.Frag} {mg : PySem.Str → Option Value} {base : Heap} {f fS fB fG fR fI fD fL C D CW : Addr} {fd fdS fdB fdG fdR fdI fdD fdL : FuncData} {n : Nat}
theorem ok_if (F : FnM K "read_if" "Text.read_if" sReadIf f fd) (T : TxC K mg C) (mB : Meth K C "name_behind" fB) (GB : FnOk P w K mg base CX0 4 fB fdB ["self", "words"] (spNameB C)) (bB : Binds K fdB ["self", "words"] []) (mL : Meth K C "take_closing" fL) (GL : FnOk P w K mg base CX0 2 fL fdL ["self", "word"] (spClose C)) (bL : Binds K fdL ["self", "word"] []) (mR : Meth K C "read_rows" fR) (GR : FnOk P w K mg base CX0 (6 + 2 * n) fR fdR ["self", "deep", "rounds"] (spReadRows C n)) (bR : Binds K fdR ["self", "deep", "rounds"] []) : FnOk P w K mg base CX0 (6 + 2 * n + 1) f fd ["self", "words", "deep", "rounds"] (spReadIf C n) := by
  refine F.ok (k := 6 + 2 * n) scReadIf (fun vs H Q E h => ?_) (fun cdv A outer s H vs Q E hr h => ?_)
  · obtain ⟨a, ls, v, k, m, d, r, W, x, ta, tb, rest, rfl, _⟩ := h
    rfl
  · obtain ⟨a, ls, v, k, m, d, r, W, x, ta, tb, rest, rfl, hd, n1, eW, nx, r0, hv, hl, few, fa, fb, q⟩ := h
    refine ⟨_, PSs.nox (pss_cons (ps_set (i := 4) scReadIf.nd rfl (Or.inl rfl) (pe_meth (pv 0) T.cl mB (GB.mono (by omega)) hr bB .nil pass0 (pa_cons (pv 1) pa_nil)))
    (pss_cons (ps_set (i := 5) scReadIf.nd rfl (Or.inl rfl) (pe_meth (pv 0) T.cl mR GR hr bR .nil pass0 (pa_cons (pe_op op_add (pv 2) pe_int) (pa_cons (pv 3) pa_nil))))
    (pss_cons (ps_expr (pe_meth (pv 0) T.cl mL (GL.mono (by omega)) hr bL .nil pass0 (pa_cons pe_str pa_nil)))
    (pss_cons (ps_set (i := 6) scReadIf.nd rfl (Or.inl rfl) (pe_meth (pv 0) T.cl mR GR hr bR .nil pass0 (pa_cons (pe_op op_add (pv 2) pe_int) (pa_cons (pv 3) pa_nil))))
    (pss_cons (ps_expr (pe_meth (pv 0) T.cl mL (GL.mono (by omega)) hr bL .nil pass0 (pa_cons pe_str pa_nil)))
    (pss_one (ps_ret (pe_tup (pa_cons pe_str (pa_cons (pv 4) (pa_cons (pv 5) (pa_cons (pv 6) pa_nil)))))))))))), ?_⟩
    refine ⟨.ref a.p, rfl, a.p, a.dx, _, rfl, r0.o, rfl, .ref W, rfl, a, ls, some v, k, m + 1, 10 * m + 10, W, "if", x, rfl, eW, nm_if, nx, r0, by omega, fun H1 k1 r1 => ?_⟩
    have r1 := r1.more (b' := 10 * (m + 1) + 10) (by omega)
    refine ⟨.ref a.p, rfl, a.p, a.dx, _, rfl, r1.o, rfl, .int (d : Int), rfl, (d : Int), 1, rfl, rfl, .int (r : Int), rfl, a, ls, v, k, m + 1, d + 1, r, ta, _, rfl, by omega, n1, r1, hv, hl, .inr ⟨_, .inl rfl⟩, by omega, fa, fun q1 xs H2 k2 r2 e1 i1 => ?_⟩
    have h2 := drop_more hl
    refine ⟨.ref a.p, rfl, a.p, a.dx, _, rfl, r2.o, rfl, a, ls, some v, k + ta.lines.length, _, _, "else", rfl, r2, at_drop h2, fun H3 k3 r3 => ?_⟩
    have h3 := drop_one h2
    refine ⟨.ref a.p, rfl, a.p, a.dx, _, rfl, r3.o, rfl, .int (d : Int), rfl, (d : Int), 1, rfl, rfl, .int (r : Int), rfl, a, ls, v, _, _, d + 1, r, tb, _, rfl, by omega, n1, r3, hv, h3, .inr ⟨_, .inr rfl⟩, by omega, fb, fun q2 ys H4 k4 r4 e2 i2 => ?_⟩
    have h4 := drop_more h3
    refine ⟨.ref a.p, rfl, a.p, a.dx, _, rfl, r4.o, rfl, a, ls, some v, _, _, _, "end", rfl, r4, at_drop h4, fun H5 k5 r5 => ?_⟩
    refine ⟨.str x, rfl, .ref q1, rfl, .ref q2, rfl, (show 4 ≤ sizeLine by decide), fun p hp => ?_⟩
    have k25 := (k3.trans k4).trans k5
    have k6 : Kept None H5 (upd H5 p (.tup [.str "if", .str x, .ref q1, .ref q2])) := Kept.refl.new hp
    have nt := r2.ntup
    have nt4 := r4.ntup
    have nn : ∀ {Hx : Hp} (p : Addr) (ys : List V), Hx p = some (.tup ys) → ¬ None p := fun p ys _ z => z
    exact q p q1 q2 xs ys _ ((k1.trans k2).trans (k25.trans (k6.weak fun _ z => z.elim))) (r5.stay k6) upd_same (k6.tup (k25.tup e1 (nt _ _ e1)) fun z => z) (k6.tup (k5.tup e2 (nt4 _ _ e2)) fun z => z) ((i1.stay k25 nt).stay k6 nn) ((i2.stay k5 nt4).stay k6 nn)
theorem ok_round (F : FnM K "read_round" "Text.read_round" sReadRound f fd) (T : TxC K mg C) (mB : Meth K C "number_behind" fB) (GB : FnOk P w K mg base CX0 5 fB fdB ["self", "words", "kind"] (spNumB C)) (bB : Binds K fdB ["self", "words", "kind"] []) (mL : Meth K C "take_closing" fL) (GL : FnOk P w K mg base CX0 2 fL fdL ["self", "word"] (spClose C)) (bL : Binds K fdL ["self", "word"] []) (mR : Meth K C "read_rows" fR) (GR : FnOk P w K mg base CX0 (6 + 2 * n) fR fdR ["self", "deep", "rounds"] (spReadRows C n)) (bR : Binds K fdR ["self", "deep", "rounds"] []) : FnOk P w K mg base CX0 (6 + 2 * n + 1) f fd ["self", "words", "deep", "rounds"] (spReadRound C n) := by
  refine F.ok (k := 6 + 2 * n) scReadRound (fun vs H Q E h => ?_) (fun cdv A outer s H vs Q E hr h => ?_)
  · obtain ⟨a, ls, v, k, m, d, r, c, W, ta, rest, rfl, _⟩ := h
    rfl
  · obtain ⟨a, ls, v, k, m, d, r, c, W, ta, rest, rfl, hd, n1, eW, hc, r0, hv, hl, few, fa, q⟩ := h
    refine ⟨_, PSs.nox (pss_cons (ps_set (i := 4) scReadRound.nd rfl (Or.inl rfl) (pe_meth (pv 0) T.cl mB (GB.mono (by omega)) hr bB .nil pass0 (pa_cons (pv 1) (pa_cons pe_str pa_nil))))
    (pss_cons (ps_set (i := 5) scReadRound.nd rfl (Or.inl rfl) (pe_meth (pv 0) T.cl mR GR hr bR .nil pass0 (pa_cons (pe_op op_add (pv 2) pe_int) (pa_cons (pe_op op_add (pv 3) pe_int) pa_nil))))
    (pss_cons (ps_expr (pe_meth (pv 0) T.cl mL (GL.mono (by omega)) hr bL .nil pass0 (pa_cons pe_str pa_nil)))
    (pss_one (ps_ret (pe_tup (pa_cons pe_str (pa_cons (pv 4) (pa_cons (pv 5) pa_nil))))))))), ?_⟩
    refine ⟨.ref a.p, rfl, a.p, a.dx, _, rfl, r0.o, rfl, .ref W, rfl, a, ls, some v, k, m + 1, 10 * m + 10, c, 0, 12, W, "round", "goings", rfl, eW, by omega, r0, .goings, Nat.zero_le _, hc, fun H1 k1 => ?_⟩
    have r1 := (r0.stay k1).more (b' := 10 * (m + 1) + 10) (by omega)
    refine ⟨.ref a.p, rfl, a.p, a.dx, _, rfl, r1.o, rfl, .int (d : Int), rfl, (d : Int), 1, rfl, rfl, .int (r : Int), rfl, (r : Int), 1, rfl, rfl, a, ls, v, k, m + 1, d + 1, r + 1, ta, _, rfl, by omega, n1, r1, hv, hl, .inr ⟨_, .inr rfl⟩, by omega, fa, fun q1 xs H2 k2 r2 e1 i1 => ?_⟩
    have h2 := drop_more hl
    refine ⟨.ref a.p, rfl, a.p, a.dx, _, rfl, r2.o, rfl, a, ls, some v, k + ta.lines.length, _, _, "end", rfl, r2, at_drop h2, fun H3 k3 r3 => ?_⟩
    refine ⟨.int (c : Int), rfl, .ref q1, rfl, (show 3 ≤ sizeLine by decide), fun p hp => ?_⟩
    have k6 : Kept None H3 (upd H3 p (.tup [.str "round", .int (c : Int), .ref q1])) := Kept.refl.new hp
    have nt := r2.ntup
    have nn : ∀ {Hx : Hp} (p : Addr) (ys : List V), Hx p = some (.tup ys) → ¬ None p := fun p ys _ z => z
    exact q p q1 xs _ ((k1.weak fun _ z => z.elim).trans (k2.trans (k3.trans (k6.weak fun _ z => z.elim)))) (r3.stay k6) upd_same (k6.tup (k3.tup e1 (nt _ _ e1)) fun z => z) ((i1.stay k3 nt).stay k6 nn)
end
end K9

set_option Elab.async false
set_option linter.all false
set_option maxRecDepth 100000
set_option maxHeartbeats 4000000
namespace K9
open PySem PySem.Spec PyProof.Rows L2
abbrev At4 (a : Ad) (F : Addr) : Addr → Prop := fun b => At3 a b ∨ b = F
theorem Kept.drop4 {H H3 H' : Hp} {a : Ad} {L : Addr} (k : Kept (At3 a) H H3) (n : H L = none) (b : Kept (At4 a L) H3 H') : Kept (At3 a) H H' := fun x o e hx => by
  refine ko_trans (k x o e hx) fun u q => b x u q ?_
  rintro (z | z)
  · exact hx z
  · exact ne_of_none e n z
def takenOf (H : Hp) (p : Addr) : Nat := match H p with
  | some (.ins _ _ fs) => (match fs.lookup ("taken" : PySem.Str) with
    | some (.int k) => k.toNat
    | _ => 0)
  | _ => 0
theorem takenOf_rd {C : Addr} {a : Ad} {ls : List (List PySem.Str)} {v : Option Nat} {k m b : Nat} {H : Hp} (r : Rd C a ls v k m b H) : takenOf H a.p = k := by
  unfold takenOf
  rw [r.o]
  rfl
/-- the value of .. if deep <= .. else .. -/
def tMost : TE := fun σ H Q => ∃ d : Nat, σ[1]? = some (some (.int (d : Int))) ∧ ∀ M : Int, (d ≤ 6 → M = 60) → Q (.int M) H
theorem pe_as {X : Cx} {e : Expr} {t t' : TE} (h : PE X e t) (i : ∀ σ H Q, t' σ H Q → t σ H Q) : PE X e t' := ⟨fun pins s σ H Q I z => h.run pins s σ H Q I (i σ H Q z)⟩
theorem Tr.app_nil : ∀ t : Tr, t.app .nil = t
  | .nil => rfl
  | .set _ _ t => by rw [Tr.app, app_nil t]
  | .tell _ t => by rw [Tr.app, app_nil t]
  | .ite _ _ _ t => by rw [Tr.app, app_nil t]
  | .rnd _ _ t => by rw [Tr.app, app_nil t]
theorem Tr.first {v d r : Nat} : ∀ w : Tr, w.fine v d r → w = .nil ∨ ∃ (x0 : PySem.Str) (rr : List PySem.Str) (r' : List (List PySem.Str)), w.lines = (x0 :: rr) :: r' ∧ inV (.str x0) [.str "else", .str "end"] = false ∧ d ≤ 6 ∧ 1 ≤ w.all
  | .nil, _ => .inl rfl
  | .set x e t, f => .inr ⟨_, _, _, rfl, by rfl, f.2.2.2.1, by simp only [Tr.all]; omega⟩
  | .tell x t, f => .inr ⟨_, _, _, rfl, by rfl, f.2.1, by simp only [Tr.all]; omega⟩
  | .ite x a b t, f => .inr ⟨_, _, _, rfl, by rfl, f.2.1, by simp only [Tr.all]; omega⟩
  | .rnd n a t, f => .inr ⟨_, _, _, rfl, by rfl, f.2.2.1, by simp only [Tr.all]; omega⟩
/-- the list that grows lies apart -/
theorem Rd.put {C F : Addr} {a : Ad} {ls : List (List PySem.Str)} {v v0 : Option Nat} {k m b k0 m0 b0 : Nat} {H H' : Hp} {xs ys : List V} (r : Rd C a ls v k m b H') (r0 : Rd C a ls v0 k0 m0 b0 H) (hF : H F = none) (kp : Kept (At4 a F) H H') (eF : H' F = some (.lst xs)) : Rd C a ls v k m b (upd H' F (.lst ys)) := by
  obtain ⟨o, ⟨ts, l1, l2, l3⟩, ⟨kvs, n1, n2, n3⟩, ⟨bvs, b1, b2⟩, nb⟩ := r
  obtain ⟨ts0, m1, m2, m3⟩ := r0.l
  have ne : ∀ {q : Addr} {u : HO}, H' q = some u → (∀ xs, u ≠ .lst xs) → q ≠ F := fun {q u} e h z => by
    rw [z, eF] at e
    exact h _ (Option.some.inj e).symm
  have neL : ∀ {q : Addr} {u : HO}, H q = some u → q ≠ F := fun e z => by
    rw [z, hF] at e; cases e
  have a4 : ∀ {q : Addr} {zs : List V}, H q = some (.lst zs) → ¬ At4 a F q := fun {q zs} e z => by
    rcases z with z | z
    · exact r0.nlst _ _ e z
    · exact neL e z
  have e2 := kp.lst m1 (a4 m1)
  rw [l1] at e2
  have e3 : ts = ts0 := by
    have e4 := HO.lst.inj (Option.some.inj e2)
    exact List.map_inj_right (fun x y h => V.ref.inj h) |>.mp e4
  subst e3
  refine ⟨by rw [upd_ne (ne o (fun _ z => by cases z))]; exact o, ⟨ts, by rw [upd_ne (neL m1)]; exact l1, l2, fun i t l h1 h2 => by rw [upd_ne (neL (m3 i t l h1 h2))]; exact l3 i t l h1 h2⟩, ⟨kvs, by rw [upd_ne (ne n1 (fun _ z => by cases z))]; exact n1, n2, n3⟩, ⟨bvs, by rw [upd_ne (ne b1 (fun _ z => by cases z))]; exact b1, fun kind lo hi h => ?_⟩, nb⟩
  obtain ⟨t, t1, t2⟩ := b2 kind lo hi h
  exact ⟨t, t1, by rw [upd_ne (ne t2 (fun _ z => by cases z))]; exact t2⟩
section
variable {P : Program} {w : World} {K : PySem.W.Frag} {mg : PySem.Str → Option Value} {base : Heap} {f fS fB fG fR fI fD fL C D CW : Addr} {fd fdS fdB fdG fdR fdI fdD fdL : FuncData} {n : Nat}
theorem ok_rows0 (F : FnM K "read_rows" "Text.read_rows" sReadRows f fd) : FnOk P w K mg base CX0 6 f fd ["self", "deep", "rounds"] (spReadRows C 0) := by
  refine F.ok (k := 5) scReadRows (fun vs H Q E h => ?_) (fun cdv A outer s H vs Q E hr h => ?_)
  · obtain ⟨a, ls, v, k, m, d, r, t, rest, rfl, _⟩ := h
    rfl
  · obtain ⟨a, ls, v, k, m, d, r, t, rest, rfl, hd, n1, _⟩ := h
    omega
theorem ok_rows1 (F : FnM K "read_rows" "Text.read_rows" sReadRows f fd) (T : TxC K mg C) (B : Tab K w mg D CW)
    (mS : Meth K C "read_set" fS) (GS : FnOk P w K mg base CX0 5 fS fdS ["self", "words"] (spSet C)) (bS : Binds K fdS ["self", "words"] [])
    (mB : Meth K C "name_behind" fB) (GB : FnOk P w K mg base CX0 4 fB fdB ["self", "words"] (spNameB C)) (bB : Binds K fdB ["self", "words"] [])
    (mI : Meth K C "read_if" fI) (GI : FnOk P w K mg base CX0 (6 + 2 * n + 1) fI fdI ["self", "words", "deep", "rounds"] (spReadIf C n)) (bI : Binds K fdI ["self", "words", "deep", "rounds"] [])
    (mD : Meth K C "read_round" fD) (GD : FnOk P w K mg base CX0 (6 + 2 * n + 1) fD fdD ["self", "words", "deep", "rounds"] (spReadRound C n)) (bD : Binds K fdD ["self", "words", "deep", "rounds"] [])
    (m_len : mg "len" = none) (m_tuple : mg "tuple" = none) {t1 t2 t3 : Tok} (g1 : mg "MOST_WITHIN" = some (.int 6 t1)) (g2 : mg "MOST_ROWS" = some (.int 60 t2)) (g3 : mg "MOST_ROUNDS_WITHIN" = some (.int 3 t3)) :
    FnOk P w K mg base CX0 (6 + 2 * n + 2) f fd ["self", "deep", "rounds"] (spReadRows C (n + 1)) := by
  refine F.ok (k := 6 + 2 * n + 1) scReadRows (fun vs H Q E h => ?_) (fun cdv A outer s H vs Q E hr h => ?_)
  · obtain ⟨a, ls, v, k, m, d, r, t, rest, rfl, _⟩ := h
    rfl
  · obtain ⟨a, ls, v, k, m, d, r, t, rest, rfl, hd, _, r0, hv, hl, hst, few, ft, q⟩ := h
    refine ⟨_, PSs.nox (pss_cons (ps_set (i := 3) scReadRows.nd rfl (Or.inl rfl) (pe_lst pa_nil))
    (pss_cons (ps_set (i := 4) scReadRows.nd rfl (Or.inl rfl) (pe_fld (pv 0) rfl))
    (pss_cons (ps_set (i := 5) scReadRows.nd rfl (Or.inl rfl) (pe_as (t' := tMost) (pe_ifExp (pt_cmpR op_le (pv 1) (pe_glob (v := .int 6) (by rfl) g1 ⟨_, rfl⟩) (nomark _)) (pe_glob (v := .int 60) (by rfl) g2 ⟨_, rfl⟩) pe_int) (fun σ H Q h => by
        obtain ⟨d, hd, q⟩ := h
        exact ⟨.int (d : Int), hd, (d : Int), 6, rfl, rfl, _, rfl, ite2 (fun z => q 60 fun _ => rfl) (fun z => q 0 fun h => absurd (show decide ((d : Int) ≤ 6) = true from decide_eq_true (by omega)) z)⟩)))
    (pss_cons (ps_while PassesOwn.never (pt_cmpR op_lt (pe_fld (pv 0) rfl) (pe_callB call_len_seq (by rfl) m_len PySem.boot_len (pa_cons (pv 4) pa_nil)) (nomark _))
      (pss_cons (ps_set (i := 6) scReadRows.nd rfl (Or.inl rfl) (pe_ix ix_list (pv 4) (pe_fld (pv 0) rfl) (fun _ _ => rfl)))
      (pss_cons (ps_set (i := 7) scReadRows.nd rfl (Or.inl rfl) (pe_ix ix_list (pv 6) pe_int (fun _ _ => rfl)))
      (pss_cons (ps_if (pt_cmpR op_in_seq (pv 7) (pe_glob (v := .ref CW) (by rfl) B.mC rfl) (by rfl))
        (pss_one ps_break)
        pss_nil)
      (pss_cons (ps_fldaug (pv 0) pe_int in_add)
      (pss_cons (ps_fldaug (pv 0) pe_int in_add)
      (pss_cons (ps_if (pt_cmpR op_gt (pe_fld (pv 0) rfl) (pv 5) (nomark _))
        (pss_one ps_never)
        pss_nil)
      (pss_one (ps_if (pt_cmpR op_eq (pv 7) pe_str (nomark _))
        (pss_one (ps_expr (pe_bm PySem.F.plainAttrs_list PySem.F.slot_list_append PySem.F.type_list_append mt_append (pv 3) (pa_cons (pe_meth (pv 0) T.cl mS (GS.mono (by omega)) hr bS .nil pass0 (pa_cons (pv 6) pa_nil)) pa_nil))))
        (pss_one (ps_if (pt_cmpR op_eq (pv 7) pe_str (nomark _))
          (pss_one (ps_expr (pe_bm PySem.F.plainAttrs_list PySem.F.slot_list_append PySem.F.type_list_append mt_append (pv 3) (pa_cons (pe_tup (pa_cons pe_str (pa_cons (pe_meth (pv 0) T.cl mB (GB.mono (by omega)) hr bB .nil pass0 (pa_cons (pv 6) pa_nil)) pa_nil))) pa_nil))))
          (pss_one (ps_if (pt_cmpR op_eq (pv 7) pe_str (nomark _))
            (pss_one (ps_expr (pe_bm PySem.F.plainAttrs_list PySem.F.slot_list_append PySem.F.type_list_append mt_append (pv 3) (pa_cons (pe_meth (pv 0) T.cl mI GI hr bI .nil pass0 (pa_cons (pv 6) (pa_cons (pv 1) (pa_cons (pv 2) pa_nil)))) pa_nil))))
            (pss_one (ps_if (PW.pt (pw_and (pt_cmpR op_eq (pv 7) pe_str (nomark _)) (pw_and1 (pt_cmpR op_lt (pv 2) (pe_glob (v := .int 3) (by rfl) g3 ⟨_, rfl⟩) (nomark _)))))
              (pss_one (ps_expr (pe_bm PySem.F.plainAttrs_list PySem.F.slot_list_append PySem.F.type_list_append mt_append (pv 3) (pa_cons (pe_meth (pv 0) T.cl mD GD hr bD .nil pass0 (pa_cons (pv 6) (pa_cons (pv 1) (pa_cons (pv 2) pa_nil)))) pa_nil))))
              (pss_one ps_never))))))))))))))))
    (pss_one (ps_ret (pe_tupleOf (by rfl) m_tuple (pv 3)))))))), ?_⟩
    refine ⟨(show 0 ≤ sizeLine by decide), fun F0 hF => ?_⟩
    have k0 : Kept None H (upd H F0 (.lst [])) := Kept.refl.new hF
    have r1 := r0.stay k0
    have eF : upd H F0 (.lst []) F0 = some (.lst []) := upd_same
    generalize upd H F0 (.lst []) = H0 at k0 r1 eF ⊢
    refine ⟨.ref a.p, rfl, a.p, C, a.dx, _, _, rfl, r1.o, T.cl, T.nL, f_L, d, rfl, fun M hM => ?_⟩
    have szl := sizeLine_eq
    refine while_by (fun σ H' => ∃ (u w : Tr) (xs : List V) (x6 x7 : Option V), σ = [some (.ref a.p), some (.int (d : Int)), some (.int (r : Int)), some (.ref F0), some (.ref a.L), some (.int M), x6, x7] ∧ t = u.app w ∧ Kept (At4 a F0) H0 H' ∧ Rd C a ls (some v) (k + u.lines.length) (m + u.all) (10 * (m + u.all) + 10) H' ∧ H' F0 = some (.lst xs) ∧ Its H' xs u ∧ w.fine v d r)
      (fun σ H' => ls.length - takenOf H' a.p) ⟨.nil, t, [], none, none, rfl, rfl, Kept.refl, r1, eF, .nil, ft⟩ (fun σ H' h => ?_) (fun σ H' Q Q' hQ h => ?_)
    · obtain ⟨u, w, xs, x6, x7, rfl, htu, kA, rA, eA, iA, fw⟩ := h
      have kH : Kept (At4 a F0) H H' := (k0.weak fun _ z => z.elim).trans kA
      obtain ⟨ts, l1, l2, l3⟩ := rA.l
      have hlw : ls.drop (k + u.lines.length) = w.lines ++ rest := by
        refine drop_more (l := u.lines) ?_
        rw [hl, htu, Tr.app_lines, List.append_assoc]
      have hall : u.all + w.all = t.all := by rw [htu, Tr.app_all]
      have hul := u.len_all
      have hxl := iA.len
      generalize hk' : k + u.lines.length = k' at rA hlw
      generalize hm' : m + u.all = m' at rA
      refine ⟨.ref a.p, rfl, a.p, C, a.dx, _, _, rfl, rA.o, T.cl, T.nT, f_T, .ref a.L, rfl, a.L, _, rfl, .inl (SqL.of l1), _, _, rfl, rfl, _, rfl, ?_⟩
      have hlen : (decide ((k' : Int) < ((ts.map V.ref).length : Int))) = decide (k' < ls.length) := by
        rw [List.length_map, l2]
        by_cases z : k' < ls.length
        · rw [decide_eq_true z, decide_eq_true (by omega)]
        · rw [decide_eq_false z, decide_eq_false (by omega)]
      rw [hlen]
      rcases Tr.first w fw with rfl | ⟨x0, rr, r', w1, w2, w3, w4⟩
      · -- the end
        have etu : t = u := by rw [htu, Tr.app_nil]
        subst etu
        have fin : ∀ p, H' p = none → Q (.ref p) (upd H' p (.tup xs)) := fun p hp => by
          have kp : Kept None H' (upd H' p (.tup xs)) := Kept.refl.new hp
          refine q p xs _ ?_ ?_ upd_same (iA.stay kp fun _ _ _ z => z)
          · refine Kept.drop4 (Kept.refl) hF (kH.trans (kp.weak fun _ z => z.elim))
          · rw [hk', hm']; exact rA.stay kp
        rcases hst with rfl | ⟨r', hr'⟩
        · have : k' ≥ ls.length := by
            have := congrArg List.length hlw
            simp only [List.length_drop, Tr.lines, List.append_nil, List.length_nil] at this
            omega
          rw [decide_eq_false (by omega)]
          exact iteF ⟨.ref F0, rfl, .inl ⟨F0, xs, rfl, SqL.of eA, fin⟩⟩
        · obtain ⟨x0, hx0, hr2⟩ : ∃ x0 : PySem.Str, inV (.str x0) [.str "else", .str "end"] = true ∧ rest = [x0] :: r' := by
            rcases hr' with h | h
            · exact ⟨_, by rfl, h⟩
            · exact ⟨_, by rfl, h⟩
          rw [hr2] at hlw
          have hat := at_drop (l := [x0]) hlw
          have hlt : k' < ls.length := (List.getElem?_eq_some_iff.mp hat).1
          rw [decide_eq_true hlt]
          have ht := List.getElem?_eq_getElem (l := ts) (i := k') (by omega)
          have eW := l3 k' _ _ ht hat
          refine iteT ⟨.ref a.L, rfl, .ref a.p, rfl, a.p, C, a.dx, _, _, rfl, rA.o, T.cl, T.nT, f_T, a.L, _, (k' : Int), .ref ts[k'], rfl, rfl, SqL.of l1, atI_nat (j := k') (by rw [List.getElem?_map, ht]; rfl), ?_⟩
          refine ⟨.ref ts[k'], rfl, ts[k'], _, 0, .str x0, rfl, rfl, SqL.of eW, atI_nat (j := 0) rfl, ?_⟩
          refine ⟨.str x0, rfl, CW, _, rfl, .inr (B.c _), rfl, rfl, _, rfl, ?_⟩
          rw [if_neg Bool.false_ne_true, hx0]
          exact iteT ⟨.ref F0, rfl, .inl ⟨F0, xs, rfl, SqL.of eA, fin⟩⟩
      · obtain rfl := hM w3
        rw [w1] at hlw
        have hat := at_drop (l := x0 :: rr) hlw
        have hlt : k' < ls.length := (List.getElem?_eq_some_iff.mp hat).1
        rw [decide_eq_true hlt]
        have ht := List.getElem?_eq_getElem (l := ts) (i := k') (by omega)
        have eW := l3 k' _ _ ht hat
        refine iteT ⟨.ref a.L, rfl, .ref a.p, rfl, a.p, C, a.dx, _, _, rfl, rA.o, T.cl, T.nT, f_T, a.L, _, (k' : Int), .ref ts[k'], rfl, rfl, SqL.of l1, atI_nat (j := k') (by rw [List.getElem?_map, ht]; rfl), ?_⟩
        generalize ts[k'] = W at ht eW ⊢
        refine ⟨.ref W, rfl, W, _, 0, .str x0, rfl, rfl, SqL.of eW, atI_nat (j := 0) rfl, ?_⟩
        refine ⟨.str x0, rfl, CW, _, rfl, .inr (B.c _), rfl, rfl, _, rfl, ?_⟩
        rw [if_neg Bool.false_ne_true, w2]
        refine iteF ⟨.ref a.p, rfl, a.p, C, a.dx, _, _, rfl, rA.o, T.cl, T.nT, f_T, (k' : Int), 1, rfl, rfl, a.dx, _, rA.o, (by show 6 < 1000; decide), ?_⟩
        have rB := rA.set (k' := k' + 1) (m' := m')
        have kB : Kept (At3 a) H' (upd H' a.p (.ins C a.dx (fsT a.A a.L (k' + 1) m' a.N a.B))) := Kept.refl.upd (.inl rfl)
        have e1 : putF "taken" (.int ((k' : Int) + 1)) (fsT a.A a.L k' m' a.N a.B) = fsT a.A a.L (k' + 1) m' a.N a.B := p_T (k' := k' + 1)
        rw [e1]
        generalize upd H' a.p (.ins C a.dx (fsT a.A a.L (k' + 1) m' a.N a.B)) = HB at rB kB ⊢
        refine ⟨.ref a.p, rfl, a.p, C, a.dx, _, _, rfl, rB.o, T.cl, T.nM, f_M, (m' : Int), 1, rfl, rfl, a.dx, _, rB.o, (by show 6 < 1000; decide), ?_⟩
        have rC := rB.set (k' := k' + 1) (m' := m' + 1)
        have kC : Kept (At3 a) H' (upd HB a.p (.ins C a.dx (fsT a.A a.L (k' + 1) (m' + 1) a.N a.B))) := kB.upd (.inl rfl)
        have e2 : putF "many_rows" (.int ((m' : Int) + 1)) (fsT a.A a.L (k' + 1) m' a.N a.B) = fsT a.A a.L (k' + 1) (m' + 1) a.N a.B := p_M (m' := m' + 1)
        rw [e2]
        generalize upd HB a.p (.ins C a.dx (fsT a.A a.L (k' + 1) (m' + 1) a.N a.B)) = H2 at rC kC ⊢
        refine ⟨.ref a.p, rfl, a.p, C, a.dx, _, _, rfl, rC.o, T.cl, T.nM, f_M, .int 60, rfl, ((m' + 1 : Nat) : Int), 60, rfl, rfl, _, rfl, ?_⟩
        rw [show decide (((m' + 1 : Nat) : Int) > 60) = false from decide_eq_false (by omega)]
        have eF2 : H2 F0 = some (.lst xs) := kC.lst eA (rA.nlst _ _ eA)
        have eW2 : H2 W = some (.lst ((x0 :: rr).map V.str)) := kC.lst eW (rA.nlst _ _ eW)
        have iB := iA.stay kC rA.ntup
        have kH2 : Kept (At4 a F0) H0 H2 := kA.trans (kC.weak fun _ z => .inl z)
        have hd2 := drop_one hlw
        have add : ∀ (one t' : Tr) (p : Addr) (H7 : Hp), w = one.app t' → t'.fine v d r → 1 ≤ one.lines.length → Kept (At3 a) H2 H7 → Rd C a ls (some v) (k' + one.lines.length) (m' + one.all) (10 * (m' + one.all) + 10) H7 → Its H7 [.ref p] one →
            H7 F0 = some (.lst xs) ∧ xs.length < sizeLine ∧ (∃ (u w : Tr) (xs' : List V) (x6 x7 : Option V), ([some (.ref a.p), some (.int (d : Int)), some (.int (r : Int)), some (.ref F0), some (.ref a.L), some (.int 60), some (.ref W), some (.str x0)] : L2.St) = [some (.ref a.p), some (.int (d : Int)), some (.int (r : Int)), some (.ref F0), some (.ref a.L), some (.int 60), x6, x7] ∧ t = u.app w ∧ Kept (At4 a F0) H0 (upd H7 F0 (.lst (xs ++ [.ref p]))) ∧ Rd C a ls (some v) (k + u.lines.length) (m + u.all) (10 * (m + u.all) + 10) (upd H7 F0 (.lst (xs ++ [.ref p]))) ∧ upd H7 F0 (.lst (xs ++ [.ref p])) F0 = some (.lst xs') ∧ Its (upd H7 F0 (.lst (xs ++ [.ref p]))) xs' u ∧ w.fine v d r) ∧ ls.length - takenOf (upd H7 F0 (.lst (xs ++ [.ref p]))) a.p < ls.length - takenOf H' a.p := by
          intro one t' p H7 ew ft' h1 k7 r7 i7
          have eF7 : H7 F0 = some (.lst xs) := k7.lst eF2 (rC.nlst _ _ eF2)
          have k07 : Kept (At4 a F0) H0 H7 := kH2.trans (k7.weak fun _ z => .inl z)
          have r8 := r7.put (ys := xs ++ [.ref p]) r0 hF ((k0.weak fun _ z => z.elim).trans k07) eF7
          have ku : Kept (fun b => b = F0) H7 (upd H7 F0 (.lst (xs ++ [.ref p]))) := Kept.refl.upd rfl
          have nt : ∀ q ys, H7 q = some (.tup ys) → ¬ q = F0 := fun q ys e z => by
            rw [z, eF7] at e; cases e
          refine ⟨eF7, by omega, ⟨u.app one, t', xs ++ [.ref p], _, _, rfl, by rw [htu, ew, Tr.app_assoc], k07.upd (.inr rfl), ?_, upd_same, ((iB.stay k7 rC.ntup).stay ku nt).app (i7.stay ku nt), ft'⟩, ?_⟩
          · rw [Tr.app_lines, List.length_append, Tr.app_all, ← Nat.add_assoc, ← Nat.add_assoc, hk', hm']; exact r8
          · rw [takenOf_rd r8, takenOf_rd rA]; omega
        refine iteF ?_
        have no : ∀ {y z : PySem.Str}, y ≠ z → ¬ decide (V.str y = V.str z) = true := fun h e => h (V.str.inj (of_decide_eq_true e))
        cases w with
        | nil => cases w1
        | set x e t' =>
          simp only [Tr.lines, List.cons.injEq] at w1
          obtain ⟨⟨rfl, rfl⟩, rfl⟩ := w1
          refine ⟨.str "set", rfl, rfl, _, rfl, ite2 (fun _ => ?_) (fun z => absurd (decide_eq_true rfl) z)⟩
          refine ⟨.ref F0, rfl, .inl ⟨rfl, _, SqL.of eF2⟩, .ref a.p, rfl, a.p, a.dx, _, rfl, rC.o, rfl, .ref W, rfl, a, ls, v, k' + 1, m' + 1, 10 * m' + 10, W, x, e, rfl, eW2, fw.1, fw.2.1, fw.2.2.1, hv, rC, by omega, fun p qq H7 k7 r7 ep eq => ?_⟩
          exact ⟨F0, _, _, rfl, rfl, add (.set x e .nil) t' p H7 rfl fw.2.2.2.2 (by simp [Tr.lines]) k7 (r7.more (by simp only [Tr.all]; omega)) (.set ep eq .nil)⟩
        | tell x t' =>
          simp only [Tr.lines, List.cons.injEq] at w1
          obtain ⟨⟨rfl, rfl⟩, rfl⟩ := w1
          refine ⟨.str "tell", rfl, rfl, _, rfl, ite2 (fun z => absurd z (no (by decide))) (fun _ => ?_)⟩
          refine ⟨.str "tell", rfl, rfl, _, rfl, ite2 (fun _ => ?_) (fun z => absurd (decide_eq_true rfl) z)⟩
          refine ⟨.ref F0, rfl, .inl ⟨rfl, _, SqL.of eF2⟩, .ref a.p, rfl, a.p, a.dx, _, rfl, rC.o, rfl, .ref W, rfl, a, ls, some v, k' + 1, m' + 1, 10 * m' + 10, W, "tell", x, rfl, eW2, nm_tell, fw.1, rC, by omega, fun H7 k7 r7 => ⟨(show 2 ≤ sizeLine by decide), fun p hp => ?_⟩⟩
          have kp : Kept None H7 (upd H7 p (.tup [.str "tell", .str x])) := Kept.refl.new hp
          exact ⟨F0, _, _, rfl, rfl, add (.tell x .nil) t' p _ rfl fw.2.2 (by simp [Tr.lines]) (k7.trans (kp.weak fun _ z => z.elim)) ((r7.stay kp).more (by simp only [Tr.all]; omega)) (.tell upd_same .nil)⟩
        | ite x ta tb t' =>
          simp only [Tr.lines, List.cons.injEq] at w1
          obtain ⟨⟨rfl, rfl⟩, rfl⟩ := w1
          have hw : u.all + (1 + ta.all + tb.all + t'.all) = t.all := hall
          refine ⟨.str "if", rfl, rfl, _, rfl, ite2 (fun z => absurd z (no (by decide))) (fun _ => ?_)⟩
          refine ⟨.str "if", rfl, rfl, _, rfl, ite2 (fun z => absurd z (no (by decide))) (fun _ => ?_)⟩
          refine ⟨.str "if", rfl, rfl, _, rfl, ite2 (fun _ => ?_) (fun z => absurd (decide_eq_true rfl) z)⟩
          refine ⟨.ref F0, rfl, .inl ⟨rfl, _, SqL.of eF2⟩, .ref a.p, rfl, a.p, a.dx, _, rfl, rC.o, rfl, .ref W, rfl, .int (d : Int), rfl, .int (r : Int), rfl, a, ls, v, k' + 1, m', d, r, W, x, ta, tb, t'.lines ++ rest, rfl, by omega, by omega, eW2, fw.1, rC, hv, by rw [hd2]; simp, by omega, fw.2.2.1, fw.2.2.2.1, fun p q1 q2 xs1 xs2 H7 k7 r7 ep e1 e2 i1 i2 => ?_⟩
          refine ⟨F0, _, _, rfl, rfl, add (.ite x ta tb .nil) t' p H7 rfl fw.2.2.2.2 (by simp [Tr.lines]) k7 ?_ (.ite ep e1 e2 i1 i2 .nil)⟩
          rw [show k' + (Tr.ite x ta tb .nil).lines.length = k' + 1 + ta.lines.length + 1 + tb.lines.length + 1 by simp only [Tr.lines, List.length_cons, List.length_append, List.length_nil]; omega, show m' + (Tr.ite x ta tb .nil).all = m' + 1 + ta.all + tb.all by simp only [Tr.all]; omega]
          exact r7
        | rnd c ta t' =>
          simp only [Tr.lines, List.cons.injEq] at w1
          obtain ⟨⟨rfl, rfl⟩, rfl⟩ := w1
          have hw : u.all + (1 + ta.all + t'.all) = t.all := hall
          refine ⟨.str "round", rfl, rfl, _, rfl, ite2 (fun z => absurd z (no (by decide))) (fun _ => ?_)⟩
          refine ⟨.str "round", rfl, rfl, _, rfl, ite2 (fun z => absurd z (no (by decide))) (fun _ => ?_)⟩
          refine ⟨.str "round", rfl, rfl, _, rfl, ite2 (fun z => absurd z (no (by decide))) (fun _ => ?_)⟩
          have hr3 : r < 3 := fw.2.1
          refine ⟨.str "round", rfl, rfl, _, rfl, ite2 (fun _ => ?_) (fun z => absurd (decide_eq_true rfl) z)⟩
          refine ⟨.int (r : Int), rfl, (r : Int), 3, rfl, rfl, _, rfl, ite2 (fun _ => ?_) (fun z => absurd (decide_eq_true (by omega)) z)⟩
          refine ⟨.ref F0, rfl, .inl ⟨rfl, _, SqL.of eF2⟩, .ref a.p, rfl, a.p, a.dx, _, rfl, rC.o, rfl, .ref W, rfl, .int (d : Int), rfl, .int (r : Int), rfl, a, ls, v, k' + 1, m', d, r, c, W, ta, t'.lines ++ rest, rfl, by omega, by omega, eW2, fw.1, rC, hv, by rw [hd2]; simp, by omega, fw.2.2.2.1, fun p q1 xs1 H7 k7 r7 ep e1 i1 => ?_⟩
          refine ⟨F0, _, _, rfl, rfl, add (.rnd c ta .nil) t' p H7 rfl fw.2.2.2.2 (by simp [Tr.lines]) k7 ?_ (.rnd ep e1 i1 .nil)⟩
          rw [show k' + (Tr.rnd c ta .nil).lines.length = k' + 1 + ta.lines.length + 1 by simp only [Tr.lines, List.length_cons, List.length_append, List.length_nil]; omega, show m' + (Tr.rnd c ta .nil).all = m' + 1 + ta.all by simp only [Tr.all]; omega]
          exact r7
    · obtain ⟨x0, h0, p, C0, dx, fs, y, h1, h2, h3, h4, h5, x1, h6, p2, ys, h7, h8, i, j, h9, h10, b, h11, h12⟩ := h
      exact ⟨x0, h0, p, C0, dx, fs, y, h1, h2, h3, h4, h5, x1, h6, p2, ys, h7, h8, i, j, h9, h10, b, h11, hQ _ _ h12⟩
end
end K9

set_option Elab.async false
set_option linter.all false
set_option maxRecDepth 100000
set_option maxHeartbeats 4000000
namespace K9
open PySem PySem.Spec PyProof.Rows L2
/-! ### ifs and rounds, whichever -/
def Tw (A : List (List PySem.Str)) (k : Nat) : Nat := (((lsOf A).take k).map List.length).sum
theorem Tw.next {A : List (List PySem.Str)} {k n : Nat} {ws : List PySem.Str} (h : (numb 1 A)[k]? = some (n, ws)) : Tw A (k + 1) = Tw A k + ws.length := by
  unfold Tw
  rw [List.take_add_one, numb_at h]
  simp
theorem sum_take : ∀ (l : List Nat) (k : Nat), (l.take k).sum ≤ l.sum
  | [], k => by simp
  | x :: l, 0 => by simp
  | x :: l, k + 1 => by
    have := sum_take l k
    simp only [List.take_succ_cons, List.sum_cons]
    omega
theorem Sz.tw {A : List (List PySem.Str)} (sz : Sz A) (k : Nat) : Tw A k ≤ 1000000 := by
  unfold Tw
  rw [List.map_take]
  exact Nat.le_trans (sum_take _ _) sz.all
def Closing (ws : List PySem.Str) : Prop := ∃ r, ws = ("else" : PySem.Str) :: r ∨ ws = ("end" : PySem.Str) :: r
def Ends8 (A : List (List PySem.Str)) (k : Nat) : Prop := k = (numb 1 A).length ∨ ∃ n ws, (numb 1 A)[k]? = some (n, ws) ∧ Closing ws
/-- what has been read of rows so far: from (m, k) to (m', k'), as t -/
structure Part (A : List (List PySem.Str)) (v : Nat) (S : List Bk) (m k m' k' : Nat) (t : Tr) : Prop where
  g : Go v (numb 1 A) S m k S m' k'
  l : (lsOf A).drop k = t.lines ++ (lsOf A).drop k'
  le : k + t.lines.length = k'
  top : k' ≤ (numb 1 A).length
  all : m' = m + t.all
  f : t.fine v (S.length + 1) (rnds S)
def spRowsX (C CB : Addr) (n : Nat) : Sp := fun vs H Q E => ∃ (a : Ad) (A : List (List PySem.Str)) (v k m d r : Nat) (S : List Bk), vs = [.ref a.p, .int (d : Int), .int (r : Int)] ∧ d = S.length + 1 ∧ r = rnds S ∧ d + n = 8 ∧ 1 ≤ n ∧ v ≤ 12 ∧ m ≤ 60 ∧ Rf C a A (some v) k m (Tw A k) H ∧ Sz A ∧ k ≤ (numb 1 A).length ∧
  (∀ ln wd, dueG v (A.length + 1) S m ((numb 1 A).drop k) = some (ln, wd) → Rz CB a H E ln wd) ∧
  ∀ (p : Addr) (xs : List V) (t : Tr) (m' k' : Nat) H', Part A v S m k m' k' t → Ends8 A k' → m' ≤ 60 → Kept (At3 a) H H' → Rf C a A (some v) k' m' (Tw A k') H' → H' p = some (.tup xs) → Its H' xs t → Q (.ref p) H'
def spOneX (C CB : Addr) (z0 : PySem.Str) (n : Nat) : Sp := fun vs H Q E => ∃ (a : Ad) (A : List (List PySem.Str)) (v k m d r ln : Nat) (S : List Bk) (W : Addr) (rr : List PySem.Str), vs = [.ref a.p, .ref W, .int (d : Int), .int (r : Int)] ∧ H W = some (.lst ((z0 :: rr).map V.str)) ∧ d = S.length + 1 ∧ r = rnds S ∧ d + n = 7 ∧ 1 ≤ n ∧ v ≤ 12 ∧ m < 60 ∧ (z0 = "round" → r < 3) ∧
  Rf C a A (some v) (k + 1) (m + 1) (Tw A k) H ∧ Sz A ∧ (numb 1 A)[k]? = some (ln, z0 :: rr) ∧
  (∀ ln wd, dueG v (A.length + 1) S m ((numb 1 A).drop k) = some (ln, wd) → Rz CB a H E ln wd) ∧
  ∀ (p : Addr) (t : Tr) (m' k' : Nat) H', Part A v S m k m' k' t → k < k' → m' ≤ 60 → Kept (At3 a) H H' → Rf C a A (some v) k' m' (Tw A k') H' → Its H' [.ref p] t → Q (.ref p) H'
theorem nrow {v m : Nat} {S : List Bk} {z : PySem.Str} {r : List PySem.Str} (h1 : z ≠ "else") (h2 : z ≠ "end") (hm : m < 60) (hS : S.length < 6) : step v S m (z :: r) =
    if z = "set" then fin (badAt (setS v r) r 2) (S, m + 1) else if z = "tell" then fin (badAt [.name] r 2) (S, m + 1) else if z = "if" then fin (badAt [.name] r 2) (.ifk :: S, m + 1) else if z = "round" ∧ rnds S < 3 then fin (badAt [.num 0 12] r 2) (.rnd :: S, m + 1) else .inl 1 := by
  rw [step, if_neg h1, if_neg h2, if_neg (fun h => h ⟨hm, hS⟩)]
theorem fin0 {α : Type} {b : Nat} {x : α} (h : b = 0) : fin b x = .inr x := by unfold fin; rw [if_pos h]
theorem fin1 {α : Type} {b : Nat} {x : α} (h : b ≠ 0) : fin b x = .inl b := by unfold fin; rw [if_neg h]
theorem step_if {v m : Nat} {S : List Bk} {r : List PySem.Str} (hm : m < 60) (hS : S.length < 6) : step v S m ("if" :: r) = fin (badAt [.name] r 2) (.ifk :: S, m + 1) := by
  rw [nrow (by decide) (by decide) hm hS, if_neg (by decide), if_neg (by decide), if_pos rfl]
theorem step_round {v m : Nat} {S : List Bk} {r : List PySem.Str} (hm : m < 60) (hS : S.length < 6) (hr : rnds S < 3) : step v S m ("round" :: r) = fin (badAt [.num 0 12] r 2) (.rnd :: S, m + 1) := by
  rw [nrow (by decide) (by decide) hm hS, if_neg (by decide), if_neg (by decide), if_neg (by decide), if_pos ⟨rfl, hr⟩]
theorem badnil {r : List PySem.Str} (h : r ≠ []) : badAt [] r 2 = 2 := by
  cases r with
  | nil => exact absurd rfl h
  | cons => rfl
theorem step_else {v m : Nat} {S : List Bk} {r : List PySem.Str} : step v (.ifk :: S) m ("else" :: r) = fin (badAt [] r 2) (.els :: S, m) := by
  rw [step, if_pos rfl]
  rfl
theorem step_end {v m : Nat} {S : List Bk} {b : Bk} {r : List PySem.Str} (h : b ≠ .ifk) : step v (b :: S) m ("end" :: r) = fin (badAt [] r 2) (S, m) := by
  rw [step, if_neg (by decide), if_pos rfl]
  cases b with
  | ifk => exact absurd rfl h
  | els => rfl
  | rnd => rfl
theorem step_if_end {v m : Nat} {S : List Bk} {r : List PySem.Str} : step v (.ifk :: S) m ("end" :: r) = .inl 1 := by
  rw [step, if_neg (by decide), if_pos rfl]
  rfl
theorem step_b_else {v m : Nat} {S : List Bk} {b : Bk} {r : List PySem.Str} (h : b ≠ .ifk) : step v (b :: S) m ("else" :: r) = .inl 1 := by
  rw [step, if_pos rfl]
  cases b with
  | ifk => exact absurd rfl h
  | els => rfl
  | rnd => rfl
theorem Part.at {A : List (List PySem.Str)} {v : Nat} {S : List Bk} {m k m' k' : Nat} {t : Tr} (p : Part A v S m k m' k' t) (N : Nat) : dueG v N S m ((numb 1 A).drop k) = dueG v N S m' ((numb 1 A).drop k') := p.g.due
section
variable {P : Program} {w : World} {K : PySem.W.Frag} {mg : PySem.Str → Option Value} {base : Heap} {f fS fB fG fR fI fD fL C CB D CW : Addr} {fd fdS fdB fdG fdR fdI fdD fdL : FuncData} {n : Nat}
theorem ls_drop {A : List (List PySem.Str)} {k n : Nat} {ws : List PySem.Str} (h : (numb 1 A)[k]? = some (n, ws)) : (lsOf A).drop k = ws :: (lsOf A).drop (k + 1) := drop_at (numb_at h)
theorem lt_of_get {α : Type} {L : List α} {k : Nat} {x : α} (h : L[k]? = some x) : k < L.length := (List.getElem?_eq_some_iff.mp h).1
/-- a closing line that is wanted: what is refused there -/
theorem close_due {A : List (List PySem.Str)} {v m k n0 : Nat} {S : List Bk} {z0 : PySem.Str} {CB : Addr} {a : Ad} {H : Hp} {E : XK} {S2 : List Bk} (hS : S ≠ []) (he : Ends8 A k)
    (good : ∀ r, step v S m (z0 :: r) = fin (badAt [] r 2) (S2, m)) (bad : ∀ r z, (z = "else" ∨ z = "end") → z ≠ z0 → step v S m (z :: r) = .inl 1)
    (e : ∀ ln wd, dueG v (A.length + 1) S m ((numb 1 A).drop k) = some (ln, wd) → Rz CB a H E ln wd) :
    (k = (numb 1 A).length → Rz CB a H E (A.length + 1) 1) ∧ (∀ n ws, (numb 1 A)[k]? = some (n, ws) → ws.head? ≠ some z0 → Rz CB a H E n 1) ∧ (∀ n r, (numb 1 A)[k]? = some (n, z0 :: r) → r ≠ [] → Rz CB a H E n 2) := by
  refine ⟨fun hk => e _ _ (due_end (by omega) hS), fun n ws hn hh => ?_, fun n r hn hr => ?_⟩
  · rcases he with h | ⟨n', ws', h', r, h | h⟩
    · have := lt_of_get hn
      omega
    · rw [hn] at h'
      cases h'
      subst h
      exact e _ _ (due_bad hn (bad r _ (.inl rfl) fun z => hh (by rw [z]; rfl)))
    · rw [hn] at h'
      cases h'
      subst h
      exact e _ _ (due_bad hn (bad r _ (.inr rfl) fun z => hh (by rw [z]; rfl)))
  · refine e _ _ (due_bad hn ?_)
    rw [good, badnil hr]
    rfl
theorem ok_ifX (F : FnM K "read_if" "Text.read_if" sReadIf f fd) (T : TxC K mg C) (mB : Meth K C "name_behind" fB) (GB : FnOk P w K mg base (L2.CX P w) 7 fB fdB ["self", "words"] (spNameX C CB)) (bB : Binds K fdB ["self", "words"] []) (mL : Meth K C "take_closing" fL) (GL : FnOk P w K mg base (L2.CX P w) 5 fL fdL ["self", "word"] (spCloseX C CB)) (bL : Binds K fdL ["self", "word"] []) (mR : Meth K C "read_rows" fR) (GR : FnOk P w K mg base (L2.CX P w) (8 + 2 * n) fR fdR ["self", "deep", "rounds"] (spRowsX C CB n)) (bR : Binds K fdR ["self", "deep", "rounds"] []) : FnOk P w K mg base (L2.CX P w) (8 + 2 * n + 1) f fd ["self", "words", "deep", "rounds"] (spOneX C CB "if" n) := by
  refine F.ok (k := 8 + 2 * n) scReadIf (fun vs H Q E h => ?_) (fun cdv A outer s H vs Q E hr h => ?_)
  · obtain ⟨a, A, v, k, m, d, r, ln, S, W, rr, rfl, _⟩ := h
    rfl
  · obtain ⟨a, A, v, k, m, d, r, ln, S, W, rr, rfl, eW, hd, hr0, hdn, n1, hv, hm, _, rf, sz, hn, e, q⟩ := h
    refine ⟨_, pss_cons (ps_set (i := 4) scReadIf.nd rfl (Or.inl rfl) (pe_meth (pv 0) T.cl mB (GB.mono (by omega)) hr bB .nil (passes_call (takes_of rfl rfl rfl rfl) (fun _ _ _ _ h => h)) (pa_cons (pv 1) pa_nil)))
    (pss_cons (ps_set (i := 5) scReadIf.nd rfl (Or.inl rfl) (pe_meth (pv 0) T.cl mR GR hr bR .nil (passes_call (takes_of rfl rfl rfl rfl) (fun _ _ _ _ h => h)) (pa_cons (pe_op op_add (pv 2) pe_int) (pa_cons (pv 3) pa_nil))))
    (pss_cons (ps_expr (pe_meth (pv 0) T.cl mL (GL.mono (by omega)) hr bL .nil (passes_call (takes_of rfl rfl rfl rfl) (fun _ _ _ _ h => h)) (pa_cons pe_str pa_nil)))
    (pss_cons (ps_set (i := 6) scReadIf.nd rfl (Or.inl rfl) (pe_meth (pv 0) T.cl mR GR hr bR .nil (passes_call (takes_of rfl rfl rfl rfl) (fun _ _ _ _ h => h)) (pa_cons (pe_op op_add (pv 2) pe_int) (pa_cons (pv 3) pa_nil))))
    (pss_cons (ps_expr (pe_meth (pv 0) T.cl mL (GL.mono (by omega)) hr bL .nil (passes_call (takes_of rfl rfl rfl rfl) (fun _ _ _ _ h => h)) (pa_cons pe_str pa_nil)))
    (pss_one (ps_ret (pe_tup (pa_cons pe_str (pa_cons (pv 4) (pa_cons (pv 5) (pa_cons (pv 6) pa_nil))))))))))), ?_⟩
    have hS : S.length < 6 := by omega
    have st := step_if (v := v) (r := rr) hm hS
    have tw := sz.tw (k + 1)
    have twn := Tw.next hn
    rw [List.length_cons] at twn
    refine ⟨.ref a.p, rfl, a.p, a.dx, _, rfl, rf.rd.o, rfl, .ref W, rfl, a, A, some v, k, m + 1, Tw A k, ln, W, "if", rr, rfl, eW, nm_if, rf, sz, hn, by omega, fun bad => e _ _ (due_bad hn (by rw [st, fin1 bad])), fun x H1 hrr nx k1 rf1 => ?_⟩
    subst hrr
    have st' : step v S m ("if" :: [x]) = .inr (.ifk :: S, m + 1) := by rw [st, fin0 ((fit1 (s := .name)).mpr nx)]
    have g1 : Go v (numb 1 A) S m k (.ifk :: S) (m + 1) (k + 1) := .one hn st'
    rw [← twn] at rf1
    have hk1 : k + 1 ≤ (numb 1 A).length := lt_of_get hn
    refine ⟨.ref a.p, rfl, a.p, a.dx, _, rfl, rf1.rd.o, rfl, .int (d : Int), rfl, (d : Int), 1, rfl, rfl, .int (r : Int), rfl, a, A, v, k + 1, m + 1, d + 1, r, .ifk :: S, rfl, by rw [List.length_cons, hd], by rw [hr0]; rfl, by omega, n1, hv, by omega, rf1, sz, hk1, fun l1 w1 du => (e l1 w1 (by rw [g1.due]; exact du)).of k1, fun q1 xs ta m2 k2 H2 p2 e2 hm2 kk2 rf2 ep2 i2 => ?_⟩
    have k02 := k1.trans kk2
    obtain ⟨c1, c2, c3⟩ := close_due (v := v) (CB := CB) (a := a) (H := H2) (E := E) (m := m2) (S := .ifk :: S) (S2 := .els :: S) (n0 := 0) (by simp) e2 (fun r => step_else) (fun r z hz hne => by
      rcases hz with rfl | rfl
      · exact absurd rfl hne
      · exact step_if_end) (fun l1 w1 du => (e l1 w1 (by rw [g1.due, p2.at]; exact du)).of k02)
    refine ⟨.ref a.p, rfl, a.p, a.dx, _, rfl, rf2.rd.o, rfl, a, A, some v, k2, m2, Tw A k2, "else", rfl, rf2, sz, p2.top, c1, c2, c3, fun n3 H3 hn3 k3 rf3 => ?_⟩
    have k03 := k02.trans k3
    have g3 : Go v (numb 1 A) S m k (.els :: S) m2 (k2 + 1) := g1.trans (p2.g.trans (.one hn3 (by rw [step_else]; rfl)))
    have rf3 := rf3.more (b' := Tw A (k2 + 1)) (by rw [Tw.next hn3]; omega)
    refine ⟨.ref a.p, rfl, a.p, a.dx, _, rfl, rf3.rd.o, rfl, .int (d : Int), rfl, (d : Int), 1, rfl, rfl, .int (r : Int), rfl, a, A, v, k2 + 1, m2, d + 1, r, .els :: S, rfl, by rw [List.length_cons, hd], by rw [hr0]; rfl, by omega, n1, hv, hm2, rf3, sz, lt_of_get hn3, fun l1 w1 du => (e l1 w1 (by rw [g3.due]; exact du)).of k03, fun q2 ys tb m4 k4 H4 p4 e4 hm4 kk4 rf4 ep4 i4 => ?_⟩
    have k04 := k03.trans kk4
    obtain ⟨c1, c2, c3⟩ := close_due (v := v) (CB := CB) (a := a) (H := H4) (E := E) (m := m4) (S := .els :: S) (S2 := S) (n0 := 0) (by simp) e4 (fun r => step_end (by decide)) (fun r z hz hne => by
      rcases hz with rfl | rfl
      · exact step_b_else (by decide)
      · exact absurd rfl hne) (fun l1 w1 du => (e l1 w1 (by rw [g3.due, p4.at]; exact du)).of k04)
    refine ⟨.ref a.p, rfl, a.p, a.dx, _, rfl, rf4.rd.o, rfl, a, A, some v, k4, m4, Tw A k4, "end", rfl, rf4, sz, p4.top, c1, c2, c3, fun n5 H5 hn5 k5 rf5 => ?_⟩
    have rf5 := rf5.more (b' := Tw A (k4 + 1)) (by rw [Tw.next hn5]; omega)
    have g5 : Go v (numb 1 A) S m k S m4 (k4 + 1) := g3.trans (p4.g.trans (.one hn5 (by rw [step_end (by decide)]; rfl)))
    refine ⟨.str x, rfl, .ref q1, rfl, .ref q2, rfl, (show 4 ≤ sizeLine by decide), fun p hp => ?_⟩
    have k25 := (k3.trans kk4).trans k5
    have k6 : Kept None H5 (upd H5 p (.tup [.str "if", .str x, .ref q1, .ref q2])) := Kept.refl.new hp
    have nt := rf2.rd.ntup
    have nt4 := rf4.rd.ntup
    have nn : ∀ {Hx : Hp} (p : Addr) (ys : List V), Hx p = some (.tup ys) → ¬ None p := fun p ys _ z => z
    refine q p (.ite x ta tb .nil) m4 (k4 + 1) _ ⟨g5, ?_, ?_, lt_of_get hn5, ?_, ⟨nx, by omega, by have := p2.f; rw [List.length_cons] at this; exact this, by have := p4.f; rw [List.length_cons] at this; exact this, trivial⟩⟩ (by have := p2.le; have := p4.le; omega) hm4 (k04.trans (k5.trans (k6.weak fun _ z => z.elim))) (rf5.stay k6) (.ite upd_same (k6.tup (k25.tup ep2 (nt _ _ ep2)) fun z => z) (k6.tup (k5.tup ep4 (nt4 _ _ ep4)) fun z => z) ((i2.stay k25 nt).stay k6 nn) ((i4.stay k5 nt4).stay k6 nn) .nil)
    · rw [ls_drop hn, p2.l, ls_drop hn3, p4.l, ls_drop hn5]
      simp [Tr.lines]
    · have := p2.le
      have := p4.le
      simp only [Tr.lines, List.length_cons, List.length_append, List.length_nil]
      omega
    · have := p2.all
      have := p4.all
      simp only [Tr.all]
      omega
theorem ok_roundX (F : FnM K "read_round" "Text.read_round" sReadRound f fd) (T : TxC K mg C) (mB : Meth K C "number_behind" fB) (GB : FnOk P w K mg base (L2.CX P w) 7 fB fdB ["self", "words", "kind"] (spNumX C CB)) (bB : Binds K fdB ["self", "words", "kind"] []) (mL : Meth K C "take_closing" fL) (GL : FnOk P w K mg base (L2.CX P w) 5 fL fdL ["self", "word"] (spCloseX C CB)) (bL : Binds K fdL ["self", "word"] []) (mR : Meth K C "read_rows" fR) (GR : FnOk P w K mg base (L2.CX P w) (8 + 2 * n) fR fdR ["self", "deep", "rounds"] (spRowsX C CB n)) (bR : Binds K fdR ["self", "deep", "rounds"] []) : FnOk P w K mg base (L2.CX P w) (8 + 2 * n + 1) f fd ["self", "words", "deep", "rounds"] (spOneX C CB "round" n) := by
  refine F.ok (k := 8 + 2 * n) scReadRound (fun vs H Q E h => ?_) (fun cdv A outer s H vs Q E hr h => ?_)
  · obtain ⟨a, A, v, k, m, d, r, ln, S, W, rr, rfl, _⟩ := h
    rfl
  · obtain ⟨a, A, v, k, m, d, r, ln, S, W, rr, rfl, eW, hd, hr0, hdn, n1, hv, hm, hr3, rf, sz, hn, e, q⟩ := h
    have hr3 := hr3 rfl
    refine ⟨_, pss_cons (ps_set (i := 4) scReadRound.nd rfl (Or.inl rfl) (pe_meth (pv 0) T.cl mB (GB.mono (by omega)) hr bB .nil (passes_call (takes_of rfl rfl rfl rfl) (fun _ _ _ _ h => h)) (pa_cons (pv 1) (pa_cons pe_str pa_nil))))
    (pss_cons (ps_set (i := 5) scReadRound.nd rfl (Or.inl rfl) (pe_meth (pv 0) T.cl mR GR hr bR .nil (passes_call (takes_of rfl rfl rfl rfl) (fun _ _ _ _ h => h)) (pa_cons (pe_op op_add (pv 2) pe_int) (pa_cons (pe_op op_add (pv 3) pe_int) pa_nil))))
    (pss_cons (ps_expr (pe_meth (pv 0) T.cl mL (GL.mono (by omega)) hr bL .nil (passes_call (takes_of rfl rfl rfl rfl) (fun _ _ _ _ h => h)) (pa_cons pe_str pa_nil)))
    (pss_one (ps_ret (pe_tup (pa_cons pe_str (pa_cons (pv 4) (pa_cons (pv 5) pa_nil)))))))), ?_⟩
    have hS : S.length < 6 := by omega
    have st := step_round (v := v) (r := rr) hm hS (by omega)
    have twn := Tw.next hn
    rw [List.length_cons] at twn
    refine ⟨.ref a.p, rfl, a.p, a.dx, _, rfl, rf.rd.o, rfl, .ref W, rfl, a, A, some v, k, m + 1, Tw A k, ln, 0, 12, W, "round", "goings", rr, rfl, eW, .goings, rf, sz, hn, fun bad => e _ _ (due_bad hn (by rw [st, fin1 bad])), fun c x H1 hrr nx k1' => ?_⟩
    subst hrr
    have k1 : Kept (At3 a) H H1 := k1'.weak fun _ z => z.elim
    have st' : step v S m ("round" :: [x]) = .inr (.rnd :: S, m + 1) := by rw [st, fin0 ((fit1 (s := .num 0 12)).mpr (by rw [So.fits, nx]; rfl))]
    have g1 : Go v (numb 1 A) S m k (.rnd :: S) (m + 1) (k + 1) := .one hn st'
    have rf1 := (rf.stay k1').more (b' := Tw A (k + 1)) (by omega)
    have hk1 : k + 1 ≤ (numb 1 A).length := lt_of_get hn
    refine ⟨.ref a.p, rfl, a.p, a.dx, _, rfl, rf1.rd.o, rfl, .int (d : Int), rfl, (d : Int), 1, rfl, rfl, .int (r : Int), rfl, (r : Int), 1, rfl, rfl, a, A, v, k + 1, m + 1, d + 1, r + 1, .rnd :: S, rfl, by rw [List.length_cons, hd], by rw [hr0]; unfold rnds; rw [List.count_cons_self], by omega, n1, hv, by omega, rf1, sz, hk1, fun l1 w1 du => (e l1 w1 (by rw [g1.due]; exact du)).of k1, fun q1 xs ta m2 k2 H2 p2 e2 hm2 kk2 rf2 ep2 i2 => ?_⟩
    have k02 := k1.trans kk2
    obtain ⟨c1, c2, c3⟩ := close_due (v := v) (CB := CB) (a := a) (H := H2) (E := E) (m := m2) (S := .rnd :: S) (S2 := S) (n0 := 0) (by simp) e2 (fun r => step_end (by decide)) (fun r z hz hne => by
      rcases hz with rfl | rfl
      · exact step_b_else (by decide)
      · exact absurd rfl hne) (fun l1 w1 du => (e l1 w1 (by rw [g1.due, p2.at]; exact du)).of k02)
    refine ⟨.ref a.p, rfl, a.p, a.dx, _, rfl, rf2.rd.o, rfl, a, A, some v, k2, m2, Tw A k2, "end", rfl, rf2, sz, p2.top, c1, c2, c3, fun n3 H3 hn3 k3 rf3 => ?_⟩
    have rf3 := rf3.more (b' := Tw A (k2 + 1)) (by rw [Tw.next hn3]; omega)
    have g3 : Go v (numb 1 A) S m k S m2 (k2 + 1) := g1.trans (p2.g.trans (.one hn3 (by rw [step_end (by decide)]; rfl)))
    refine ⟨.int (c : Int), rfl, .ref q1, rfl, (show 3 ≤ sizeLine by decide), fun p hp => ?_⟩
    have k6 : Kept None H3 (upd H3 p (.tup [.str "round", .int (c : Int), .ref q1])) := Kept.refl.new hp
    have nt := rf2.rd.ntup
    have nn : ∀ {Hx : Hp} (p : Addr) (ys : List V), Hx p = some (.tup ys) → ¬ None p := fun p ys _ z => z
    have hx := numW_dec nx (by decide)
    refine q p (.rnd c ta .nil) m2 (k2 + 1) _ ⟨g3, ?_, ?_, lt_of_get hn3, ?_, ⟨(numW_some nx).2.2, by omega, by omega, by have := p2.f; rw [List.length_cons] at this; unfold rnds at this ⊢; rw [List.count_cons_self] at this; exact this, trivial⟩⟩ (by have := p2.le; omega) hm2 (k02.trans (k3.trans (k6.weak fun _ z => z.elim))) (rf3.stay k6) (.rnd upd_same (k6.tup (k3.tup ep2 (nt _ _ ep2)) fun z => z) ((i2.stay k3 nt).stay k6 nn) .nil)
    · rw [ls_drop hn, p2.l, ls_drop hn3, hx]
      simp [Tr.lines]
    · have := p2.le
      simp only [Tr.lines, List.length_cons, List.length_append, List.length_nil]
      omega
    · have := p2.all
      simp only [Tr.all]
      omega
end
end K9

set_option Elab.async false
set_option linter.all false
set_option maxRecDepth 100000
set_option maxHeartbeats 4000000
namespace K9
open PySem PySem.Spec PyProof.Rows L2
/-! ### rows, whichever -/
theorem in_no {z : PySem.Str} (h1 : z ≠ "else") (h2 : z ≠ "end") : inV (.str z) [.str "else", .str "end"] = false := by
  unfold inV
  simp [eqV, Ne.symm h1, Ne.symm h2]
theorem bad_fit {k : So} {ks : List So} {z : PySem.Str} {zs : List PySem.Str} {i : Nat} (h : k.fits z = true) : badAt (k :: ks) (z :: zs) i = badAt ks zs (i + 1) := by
  rw [badAt, if_pos h]
theorem op_expr (o : Op) : exprB o.name = true := by cases o <;> decide +kernel
theorem expr_word (e : Ex) : exprB e.word = true := by
  cases e with
  | two o y z => exact op_expr o
  | num n => exact (by decide +kernel : exprB "number" = true)
  | copy y => exact (by decide +kernel : exprB "copy" = true)
  | up y k => exact (by decide +kernel : exprB "up" = true)
  | down y k => exact (by decide +kernel : exprB "down" = true)
  | pick c y z => exact (by decide +kernel : exprB "pick" = true)
theorem exS_two {v : Nat} (o : Op) : exS v o.name = [.name, .name] := by cases o <;> rfl
theorem ex_bad0 {v : Nat} {x : PySem.Str} {e : Ex} (hv : v ≤ 12) (nx : Nm x) (nes : ∀ y ∈ e.names, Nm y) (ok : e.ok v) : badAt (setS v (x :: e.words)) (x :: e.words) 2 = 0 := by
  have ew : So.fits .expr e.word = true := expr_word e
  have t : 2 ^ v ≤ 4096 := Nat.pow_le_pow_right (n := 2) (i := v) (j := 12) (by decide) hv
  have nm : ∀ {y : PySem.Str}, Nm y → So.fits .name y = true := fun h => h
  cases e with
  | num n =>
    have o : n < 2 ^ v := ok
    show badAt (.name :: .expr :: [.num 0 (2 ^ v - 1)]) (x :: "number" :: [dec n]) 2 = 0
    rw [bad_fit (nm nx), bad_fit (show So.fits .expr "number" = true from ew), bad_fit (by rw [So.fits, numW_of (by omega) (Nat.zero_le _) (by omega)]; rfl)]
    rfl
  | copy y =>
    show badAt (.name :: .expr :: [.name]) (x :: "copy" :: [y]) 2 = 0
    rw [bad_fit (nm nx), bad_fit (show So.fits .expr "copy" = true from ew), bad_fit (nm (nes y (by simp [Ex.names])))]
    rfl
  | two o y z =>
    show badAt (.name :: .expr :: exS v o.name) (x :: o.name :: [y, z]) 2 = 0
    rw [exS_two, bad_fit (nm nx), bad_fit (show So.fits .expr o.name = true from ew), bad_fit (nm (nes y (by simp [Ex.names]))), bad_fit (nm (nes z (by simp [Ex.names])))]
    rfl
  | up y k =>
    have o : k ≤ 11 := ok
    show badAt (.name :: .expr :: [.name, .num 0 11]) (x :: "up" :: [y, dec k]) 2 = 0
    rw [bad_fit (nm nx), bad_fit (show So.fits .expr "up" = true from ew), bad_fit (nm (nes y (by simp [Ex.names]))), bad_fit (by rw [So.fits, numW_of (by omega) (Nat.zero_le _) o]; rfl)]
    rfl
  | down y k =>
    have o : k ≤ 11 := ok
    show badAt (.name :: .expr :: [.name, .num 0 11]) (x :: "down" :: [y, dec k]) 2 = 0
    rw [bad_fit (nm nx), bad_fit (show So.fits .expr "down" = true from ew), bad_fit (nm (nes y (by simp [Ex.names]))), bad_fit (by rw [So.fits, numW_of (by omega) (Nat.zero_le _) o]; rfl)]
    rfl
  | pick c y z =>
    show badAt (.name :: .expr :: [.name, .name, .name]) (x :: "pick" :: [c, y, z]) 2 = 0
    rw [bad_fit (nm nx), bad_fit (show So.fits .expr "pick" = true from ew), bad_fit (nm (nes c (by simp [Ex.names]))), bad_fit (nm (nes y (by simp [Ex.names]))), bad_fit (nm (nes z (by simp [Ex.names])))]
    rfl
theorem Tr.app_fine8 {v : Nat} : ∀ (t u : Tr) (d r : Nat), t.fine v d r → u.fine v d r → (t.app u).fine v d r
  | .nil, _, _, _, _, h => h
  | .set _ _ t, u, d, r, ⟨f1, f2, f3, f4, f5⟩, h => ⟨f1, f2, f3, f4, app_fine8 t u d r f5 h⟩
  | .tell _ t, u, d, r, ⟨f1, f2, f3⟩, h => ⟨f1, f2, app_fine8 t u d r f3 h⟩
  | .ite _ a b t, u, d, r, ⟨f1, f2, f3, f4, f5⟩, h => ⟨f1, f2, f3, f4, app_fine8 t u d r f5 h⟩
  | .rnd _ a t, u, d, r, ⟨f1, f2, f3, f4, f5⟩, h => ⟨f1, f2, f3, f4, app_fine8 t u d r f5 h⟩
theorem Part.trans {A : List (List PySem.Str)} {v : Nat} {S : List Bk} {m k m1 k1 m2 k2 : Nat} {t u : Tr} (p : Part A v S m k m1 k1 t) (q : Part A v S m1 k1 m2 k2 u) : Part A v S m k m2 k2 (t.app u) := by
  refine ⟨p.g.trans q.g, by rw [p.l, q.l, Tr.app_lines, List.append_assoc], ?_, q.top, ?_, Tr.app_fine8 t u _ _ p.f q.f⟩
  · rw [Tr.app_lines, List.length_append, ← Nat.add_assoc, p.le, q.le]
  · rw [Tr.app_all, ← Nat.add_assoc, ← p.all, ← q.all]
theorem Part.nil {A : List (List PySem.Str)} {v : Nat} {S : List Bk} {m k : Nat} (h : k ≤ (numb 1 A).length) : Part A v S m k m k .nil := ⟨.refl, rfl, rfl, h, rfl, trivial⟩
theorem Rf.put {C F : Addr} {a : Ad} {A : List (List PySem.Str)} {v v0 : Option Nat} {k m b k0 m0 b0 : Nat} {H H' : Hp} {xs ys : List V} (r : Rf C a A v k m b H') (r0 : Rf C a A v0 k0 m0 b0 H) (hF : H F = none) (kp : Kept (At4 a F) H H') (eF : H' F = some (.lst xs)) : Rf C a A v k m b (upd H' F (.lst ys)) := by
  refine ⟨r.rd.put r0.rd hF kp eF, ?_⟩
  obtain ⟨as, a1, a2, a3⟩ := r0.al
  have neL : ∀ {q : Addr} {u : HO}, H q = some u → q ≠ F := fun e z => by
    rw [z, hF] at e; cases e
  have a4 : ∀ {q : Addr} {zs : List V}, H q = some (.lst zs) → ¬ At4 a F q := fun {q zs} e z => by
    rcases z with z | z
    · exact r0.rd.nlst _ _ e z
    · exact neL e z
  refine ⟨as, by rw [upd_ne (neL a1)]; exact kp.lst a1 (a4 a1), a2, fun i t l h1 h2 => ?_⟩
  have e := a3 i t l h1 h2
  rw [upd_ne (neL e)]
  exact kp.lst e (a4 e)
/-- the value of .. if deep <= .. else 0 -/
def tMostX : TE := fun σ H Q => ∃ d : Nat, σ[1]? = some (some (.int (d : Int))) ∧ ∀ M : Nat, (d ≤ 6 → M = 60) → (¬ d ≤ 6 → M = 0) → Q (.int (M : Int)) H
section
variable {P : Program} {w : World} {K : PySem.W.Frag} {mg : PySem.Str → Option Value} {base : Heap} {f fS fB fG fR fI fD fL C CB D CW : Addr} {fd fdS fdB fdG fdR fdI fdD fdL : FuncData} {n : Nat}
theorem ok_rowsX0 (F : FnM K "read_rows" "Text.read_rows" sReadRows f fd) : FnOk P w K mg base (L2.CX P w) 8 f fd ["self", "deep", "rounds"] (spRowsX C CB 0) := by
  refine F.ok (k := 7) scReadRows (fun vs H Q E h => ?_) (fun cdv A outer s H vs Q E hr h => ?_)
  · obtain ⟨a, A, v, k, m, d, r, S, rfl, _⟩ := h
    rfl
  · obtain ⟨a, A, v, k, m, d, r, S, rfl, hd, hr', hdn, n1, _⟩ := h
    omega
theorem ok_rowsX1 (F : FnM K "read_rows" "Text.read_rows" sReadRows f fd) (T : TxC K mg C) (B : TabX K w mg D CW)
    (mS : Meth K C "read_set" fS) (GS : FnOk P w K mg base (L2.CX P w) 7 fS fdS ["self", "words"] (spSetX C CB)) (bS : Binds K fdS ["self", "words"] [])
    (mB : Meth K C "name_behind" fB) (GB : FnOk P w K mg base (L2.CX P w) 7 fB fdB ["self", "words"] (spNameX C CB)) (bB : Binds K fdB ["self", "words"] [])
    (mR : Meth K C "refuse" fR) (GR : FnOk P w K mg base (L2.CX P w) 3 fR fdR ["self", "word"] (spRefuse C CB)) (bR : Binds K fdR ["self", "word"] [])
    (mI : Meth K C "read_if" fI) (GI : FnOk P w K mg base (L2.CX P w) (8 + 2 * n + 1) fI fdI ["self", "words", "deep", "rounds"] (spOneX C CB "if" n)) (bI : Binds K fdI ["self", "words", "deep", "rounds"] [])
    (mD : Meth K C "read_round" fD) (GD : FnOk P w K mg base (L2.CX P w) (8 + 2 * n + 1) fD fdD ["self", "words", "deep", "rounds"] (spOneX C CB "round" n)) (bD : Binds K fdD ["self", "words", "deep", "rounds"] [])
    (m_len : mg "len" = none) (m_tuple : mg "tuple" = none) {t1 t2 t3 : Tok} (g1 : mg "MOST_WITHIN" = some (.int 6 t1)) (g2 : mg "MOST_ROWS" = some (.int 60 t2)) (g3 : mg "MOST_ROUNDS_WITHIN" = some (.int 3 t3)) :
    FnOk P w K mg base (L2.CX P w) (8 + 2 * n + 2) f fd ["self", "deep", "rounds"] (spRowsX C CB (n + 1)) := by
  refine F.ok (k := 8 + 2 * n + 1) scReadRows (fun vs H Q E h => ?_) (fun cdv A outer s H vs Q E hr h => ?_)
  · obtain ⟨a, A, v, k, m, d, r, S, rfl, _⟩ := h
    rfl
  · obtain ⟨a, A, v, k, m, d, r, S, rfl, hd, hr', hdn, _, hv, hm, r0, sz, hk, e, q⟩ := h
    refine ⟨_, pss_cons (ps_set (i := 3) scReadRows.nd rfl (Or.inl rfl) (pe_lst pa_nil))
    (pss_cons (ps_set (i := 4) scReadRows.nd rfl (Or.inl rfl) (pe_fld (pv 0) rfl))
    (pss_cons (ps_set (i := 5) scReadRows.nd rfl (Or.inl rfl) (pe_as (t' := tMostX) (pe_ifExp (pt_cmpR op_le (pv 1) (pe_glob (v := .int 6) (by rfl) g1 ⟨_, rfl⟩) (nomark _)) (pe_glob (v := .int 60) (by rfl) g2 ⟨_, rfl⟩) pe_int) (fun σ H Q h => by
        obtain ⟨d, hd, q⟩ := h
        exact ⟨.int (d : Int), hd, (d : Int), 6, rfl, rfl, _, rfl, ite2 (fun z => q 60 (fun _ => rfl) (fun h => absurd (of_decide_eq_true z) (by omega))) (fun z => q 0 (fun h => absurd (show decide ((d : Int) ≤ 6) = true from decide_eq_true (by omega)) z) fun _ => rfl)⟩)))
    (pss_cons (ps_while (passes_of rfl) (pt_cmpR op_lt (pe_fld (pv 0) rfl) (pe_callB call_len_seq (by rfl) m_len PySem.boot_len (pa_cons (pv 4) pa_nil)) (nomark _))
      (pss_cons (ps_set (i := 6) scReadRows.nd rfl (Or.inl rfl) (pe_ix ix_list (pv 4) (pe_fld (pv 0) rfl) (fun _ _ => rfl)))
      (pss_cons (ps_set (i := 7) scReadRows.nd rfl (Or.inl rfl) (pe_ix ix_list (pv 6) pe_int (fun _ _ => rfl)))
      (pss_cons (ps_if (pt_cmpR op_in_seq (pv 7) (pe_glob (v := .ref CW) (by rfl) B.mC rfl) (by rfl))
        (pss_one ps_break)
        pss_nil)
      (pss_cons (ps_fldaug (pv 0) pe_int in_add)
      (pss_cons (ps_fldaug (pv 0) pe_int in_add)
      (pss_cons (ps_if (pt_cmpR op_gt (pe_fld (pv 0) rfl) (pv 5) (nomark _))
        (pss_one (ps_expr (pe_meth (pv 0) T.cl mR (GR.mono (by omega)) hr bR .nil (passes_call (takes_of rfl rfl rfl rfl) (fun _ _ _ _ h => h)) (pa_cons pe_int pa_nil))))
        pss_nil)
      (pss_one (ps_if (pt_cmpR op_eq (pv 7) pe_str (nomark _))
        (pss_one (ps_expr (pe_bm PySem.F.plainAttrs_list PySem.F.slot_list_append PySem.F.type_list_append mt_append (pv 3) (pa_cons (pe_meth (pv 0) T.cl mS (GS.mono (by omega)) hr bS .nil (passes_call (takes_of rfl rfl rfl rfl) (fun _ _ _ _ h => h)) (pa_cons (pv 6) pa_nil)) pa_nil))))
        (pss_one (ps_if (pt_cmpR op_eq (pv 7) pe_str (nomark _))
          (pss_one (ps_expr (pe_bm PySem.F.plainAttrs_list PySem.F.slot_list_append PySem.F.type_list_append mt_append (pv 3) (pa_cons (pe_tup (pa_cons pe_str (pa_cons (pe_meth (pv 0) T.cl mB (GB.mono (by omega)) hr bB .nil (passes_call (takes_of rfl rfl rfl rfl) (fun _ _ _ _ h => h)) (pa_cons (pv 6) pa_nil)) pa_nil))) pa_nil))))
          (pss_one (ps_if (pt_cmpR op_eq (pv 7) pe_str (nomark _))
            (pss_one (ps_expr (pe_bm PySem.F.plainAttrs_list PySem.F.slot_list_append PySem.F.type_list_append mt_append (pv 3) (pa_cons (pe_meth (pv 0) T.cl mI GI hr bI .nil (passes_call (takes_of rfl rfl rfl rfl) (fun _ _ _ _ h => h)) (pa_cons (pv 6) (pa_cons (pv 1) (pa_cons (pv 2) pa_nil)))) pa_nil))))
            (pss_one (ps_if (PW.pt (pw_and (pt_cmpR op_eq (pv 7) pe_str (nomark _)) (pw_and1 (pt_cmpR op_lt (pv 2) (pe_glob (v := .int 3) (by rfl) g3 ⟨_, rfl⟩) (nomark _)))))
              (pss_one (ps_expr (pe_bm PySem.F.plainAttrs_list PySem.F.slot_list_append PySem.F.type_list_append mt_append (pv 3) (pa_cons (pe_meth (pv 0) T.cl mD GD hr bD .nil (passes_call (takes_of rfl rfl rfl rfl) (fun _ _ _ _ h => h)) (pa_cons (pv 6) (pa_cons (pv 1) (pa_cons (pv 2) pa_nil)))) pa_nil))))
              (pss_one (ps_expr (pe_meth (pv 0) T.cl mR (GR.mono (by omega)) hr bR .nil (passes_call (takes_of rfl rfl rfl rfl) (fun _ _ _ _ h => h)) (pa_cons pe_int pa_nil)))))))))))))))))))
    (pss_one (ps_ret (pe_tupleOf (by rfl) m_tuple (pv 3))))))), ?_⟩
    refine ⟨(show 0 ≤ sizeLine by decide), fun F0 hF => ?_⟩
    have k0 : Kept None H (upd H F0 (.lst [])) := Kept.refl.new hF
    have r1 := r0.stay k0
    have eF : upd H F0 (.lst []) F0 = some (.lst []) := upd_same
    generalize upd H F0 (.lst []) = H0 at k0 r1 eF ⊢
    refine ⟨.ref a.p, rfl, a.p, C, a.dx, _, _, rfl, r1.rd.o, T.cl, T.nL, f_L, d, rfl, fun M hM6 hM7 => ?_⟩
    have szl := sizeLine_eq
    have nL := numb_ls A
    refine while_by (fun σ H' => ∃ (u : Tr) (m' k' : Nat) (xs : List V) (x6 x7 : Option V), σ = [some (.ref a.p), some (.int (d : Int)), some (.int (r : Int)), some (.ref F0), some (.ref a.L), some (.int (M : Int)), x6, x7] ∧ Part A v S m k m' k' u ∧ m' ≤ 60 ∧ Kept (At4 a F0) H0 H' ∧ Rf C a A (some v) k' m' (Tw A k') H' ∧ H' F0 = some (.lst xs) ∧ Its H' xs u)
      (fun σ H' => (numb 1 A).length - takenOf H' a.p) ⟨.nil, m, k, [], none, none, rfl, .nil hk, hm, Kept.refl, r1, eF, .nil⟩ (fun σ H' h => ?_) (fun σ H' Q Q' hQ h => ?_)
    · obtain ⟨u, m', k', xs, x6, x7, rfl, pu, hm', kA, rA, eA, iA⟩ := h
      have kH : Kept (At4 a F0) H H' := (k0.weak fun _ z => z.elim).trans kA
      have kH3 : Kept (At3 a) H H' := Kept.drop4 Kept.refl hF kH
      obtain ⟨ts, l1, l2, l3⟩ := rA.rd.l
      have hul := u.len_all
      have hxl := iA.len
      have pua := pu.all
      have ee : ∀ ln wd, dueG v (A.length + 1) S m' ((numb 1 A).drop k') = some (ln, wd) → Rz CB a H E ln wd := fun ln wd h => e ln wd (by rw [pu.at]; exact h)
      refine ⟨.ref a.p, rfl, a.p, C, a.dx, _, _, rfl, rA.rd.o, T.cl, T.nT, f_T, .ref a.L, rfl, a.L, _, rfl, .inl (SqL.of l1), _, _, rfl, rfl, _, rfl, ?_⟩
      have hlen : (decide ((k' : Int) < ((ts.map V.ref).length : Int))) = decide (k' < (numb 1 A).length) := by
        rw [List.length_map, l2, ← nL]
        by_cases z : k' < (numb 1 A).length
        · rw [decide_eq_true z, decide_eq_true (by omega)]
        · rw [decide_eq_false z, decide_eq_false (by omega)]
      rw [hlen]
      have fin : Ends8 A k' → ∀ p, H' p = none → Q (.ref p) (upd H' p (.tup xs)) := fun en p hp => by
        have kp : Kept None H' (upd H' p (.tup xs)) := Kept.refl.new hp
        exact q p xs u m' k' _ pu en hm' (kH3.trans (kp.weak fun _ z => z.elim)) (rA.stay kp) upd_same (iA.stay kp fun _ _ _ z => z)
      by_cases hlt : k' < (numb 1 A).length
      · rw [decide_eq_true hlt]
        obtain ⟨⟨ln, ws⟩, hn⟩ : ∃ q, (numb 1 A)[k']? = some q := ⟨_, List.getElem?_eq_getElem hlt⟩
        have hl := numb_at hn
        have ht := List.getElem?_eq_getElem (l := ts) (i := k') (by omega)
        have eW := l3 k' _ _ ht hl
        refine iteT ⟨.ref a.L, rfl, .ref a.p, rfl, a.p, C, a.dx, _, _, rfl, rA.rd.o, T.cl, T.nT, f_T, a.L, _, (k' : Int), .ref ts[k'], rfl, rfl, SqL.of l1, atI_nat (j := k') (by rw [List.getElem?_map, ht]; rfl), ?_⟩
        generalize ts[k'] = W at ht eW ⊢
        cases ws with
        | nil => exact absurd rfl (numb_mem (List.mem_of_getElem? hn)).1
        | cons x0 rr =>
        refine ⟨.ref W, rfl, W, _, 0, .str x0, rfl, rfl, SqL.of eW, atI_nat (j := 0) rfl, ?_⟩
        refine ⟨.str x0, rfl, CW, _, rfl, .inr (B.c _), rfl, rfl, _, rfl, ?_⟩
        rw [if_neg Bool.false_ne_true]
        by_cases hc : x0 = "else" ∨ x0 = "end"
        · have hin : inV (.str x0) [.str "else", .str "end"] = true := by
            rcases hc with rfl | rfl <;> rfl
          rw [hin]
          exact iteT ⟨.ref F0, rfl, .inl ⟨F0, xs, rfl, SqL.of eA, fin (.inr ⟨ln, _, hn, rr, by rcases hc with rfl | rfl; exact .inl rfl; exact .inr rfl⟩)⟩⟩
        have ne1 : x0 ≠ "else" := fun h => hc (.inl h)
        have ne2 : x0 ≠ "end" := fun h => hc (.inr h)
        have hin : inV (.str x0) [.str "else", .str "end"] = false := in_no ne1 ne2
        rw [hin]
        refine iteF ⟨.ref a.p, rfl, a.p, C, a.dx, _, _, rfl, rA.rd.o, T.cl, T.nT, f_T, (k' : Int), 1, rfl, rfl, a.dx, _, rA.rd.o, (by show 6 < 1000; decide), ?_⟩
        have rB0 := rA.rd.set (k' := k' + 1) (m' := m')
        have kB : Kept (At3 a) H' (upd H' a.p (.ins C a.dx (fsT a.A a.L (k' + 1) m' a.N a.B))) := Kept.refl.upd (.inl rfl)
        have e1 : putF "taken" (.int ((k' : Int) + 1)) (fsT a.A a.L k' m' a.N a.B) = fsT a.A a.L (k' + 1) m' a.N a.B := p_T (k' := k' + 1)
        rw [e1]
        have rB := rA.keep kB rB0
        clear rB0
        generalize upd H' a.p (.ins C a.dx (fsT a.A a.L (k' + 1) m' a.N a.B)) = HB at rB kB ⊢
        refine ⟨.ref a.p, rfl, a.p, C, a.dx, _, _, rfl, rB.rd.o, T.cl, T.nM, f_M, (m' : Int), 1, rfl, rfl, a.dx, _, rB.rd.o, (by show 6 < 1000; decide), ?_⟩
        have rC0 := rB.rd.set (k' := k' + 1) (m' := m' + 1)
        have kC1 : Kept (At3 a) HB (upd HB a.p (.ins C a.dx (fsT a.A a.L (k' + 1) (m' + 1) a.N a.B))) := Kept.refl.upd (.inl rfl)
        have e2 : putF "many_rows" (.int ((m' : Int) + 1)) (fsT a.A a.L (k' + 1) m' a.N a.B) = fsT a.A a.L (k' + 1) (m' + 1) a.N a.B := p_M (m' := m' + 1)
        rw [e2]
        have rC := rB.keep kC1 rC0
        have kC := kB.trans kC1
        clear rC0 kC1
        generalize upd HB a.p (.ins C a.dx (fsT a.A a.L (k' + 1) (m' + 1) a.N a.B)) = H2 at rC kC ⊢
        have eF2 : H2 F0 = some (.lst xs) := kC.lst eA (rA.rd.nlst _ _ eA)
        have eW2 : H2 W = some (.lst ((x0 :: rr).map V.str)) := kC.lst eW (rA.rd.nlst _ _ eW)
        have iB := iA.stay kC rA.rd.ntup
        have kH2 : Kept (At4 a F0) H0 H2 := kA.trans (kC.weak fun _ z => .inl z)
        have kE : Kept (At3 a) H H2 := kH3.trans kC
        have eb : ∀ wd, step v S m' (x0 :: rr) = .inl wd → Rz CB a H2 E ln wd := fun wd st => (ee ln wd (due_bad hn st)).of kE
        refine ⟨.ref a.p, rfl, a.p, C, a.dx, _, _, rfl, rC.rd.o, T.cl, T.nM, f_M, .int (M : Int), rfl, ((m' + 1 : Nat) : Int), (M : Int), rfl, rfl, _, rfl, ite2 (fun hb => ?_) (fun hb => ?_)⟩
        · have hb := of_decide_eq_true hb
          have st : step v S m' (x0 :: rr) = .inl 1 := by
            rw [step, if_neg ne1, if_neg ne2, if_pos]
            rintro ⟨y1, y2⟩
            have := hM6 (by omega)
            omega
          exact ⟨.ref a.p, rfl, a.p, a.dx, _, rfl, rC.rd.o, rfl, a, A, some v, k', m' + 1, Tw A k', 1, ln, x0 :: rr, rfl, rC, sz, hn, by decide, eb 1 st⟩
        have hb := of_decide_eq_false (Bool.eq_false_iff.mpr hb)
        have hd6 : d ≤ 6 := Classical.byContradiction fun h => by
          have := hM7 h
          omega
        have hM := hM6 hd6
        have hm60 : m' < 60 := by omega
        have hS6 : S.length < 6 := by omega
        have nr := nrow (v := v) (r := rr) ne1 ne2 hm60 hS6
        have add : ∀ (one : Tr) (p : Addr) (m'' k'' : Nat) (H7 : Hp), Part A v S m' k' m'' k'' one → k' < k'' → m'' ≤ 60 → Kept (At3 a) H2 H7 → Rf C a A (some v) k'' m'' (Tw A k'') H7 → Its H7 [.ref p] one →
            H7 F0 = some (.lst xs) ∧ xs.length < sizeLine ∧ (∃ (u : Tr) (m' k' : Nat) (xs' : List V) (x6 x7 : Option V), ([some (.ref a.p), some (.int (d : Int)), some (.int (r : Int)), some (.ref F0), some (.ref a.L), some (.int (M : Int)), some (.ref W), some (.str x0)] : L2.St) = [some (.ref a.p), some (.int (d : Int)), some (.int (r : Int)), some (.ref F0), some (.ref a.L), some (.int (M : Int)), x6, x7] ∧ Part A v S m k m' k' u ∧ m' ≤ 60 ∧ Kept (At4 a F0) H0 (upd H7 F0 (.lst (xs ++ [.ref p]))) ∧ Rf C a A (some v) k' m' (Tw A k') (upd H7 F0 (.lst (xs ++ [.ref p]))) ∧ upd H7 F0 (.lst (xs ++ [.ref p])) F0 = some (.lst xs') ∧ Its (upd H7 F0 (.lst (xs ++ [.ref p]))) xs' u) ∧ (numb 1 A).length - takenOf (upd H7 F0 (.lst (xs ++ [.ref p]))) a.p < (numb 1 A).length - takenOf H' a.p := by
          intro one p m'' k'' H7 p1 h1 hm2 k7 r7 i7
          have eF7 : H7 F0 = some (.lst xs) := k7.lst eF2 (rC.rd.nlst _ _ eF2)
          have k07 : Kept (At4 a F0) H0 H7 := kH2.trans (k7.weak fun _ z => .inl z)
          have r8 := r7.put (ys := xs ++ [.ref p]) r0 hF ((k0.weak fun _ z => z.elim).trans k07) eF7
          have ku : Kept (fun b => b = F0) H7 (upd H7 F0 (.lst (xs ++ [.ref p]))) := Kept.refl.upd rfl
          have nt : ∀ q ys, H7 q = some (.tup ys) → ¬ q = F0 := fun q ys e z => by
            rw [z, eF7] at e; cases e
          refine ⟨eF7, by omega, ⟨u.app one, m'', k'', xs ++ [.ref p], _, _, rfl, pu.trans p1, hm2, k07.upd (.inr rfl), r8, upd_same, ((iB.stay k7 rC.rd.ntup).stay ku nt).app (i7.stay ku nt)⟩, ?_⟩
          rw [takenOf_rd r8.rd, takenOf_rd rA.rd]
          omega
        have twn := Tw.next hn
        rw [List.length_cons] at twn
        have tw1 := sz.tw (k' + 1)
        have no : ∀ {y z : PySem.Str}, y ≠ z → ¬ decide (V.str y = V.str z) = true := fun h e => h (V.str.inj (of_decide_eq_true e))
        by_cases h1 : x0 = "set"
        · subst h1
          have st : step v S m' ("set" :: rr) = K9.fin (badAt (setS v rr) rr 2) (S, m' + 1) := by rw [nr, if_pos rfl]
          refine ⟨.str "set", rfl, rfl, _, rfl, ite2 (fun _ => ?_) (fun z => absurd (decide_eq_true rfl) z)⟩
          refine ⟨.ref F0, rfl, .inl ⟨rfl, _, SqL.of eF2⟩, .ref a.p, rfl, a.p, a.dx, _, rfl, rC.rd.o, rfl, .ref W, rfl, a, A, v, k', m' + 1, Tw A k', ln, W, rr, rfl, eW2, hv, rC, sz, hn, by omega, fun bad => eb _ (by rw [st, fin1 bad]), fun x e p qq H7 er nx nes oke k7 r7 ep eq => ?_⟩
          rw [← twn] at r7
          have st2 : step v S m' ("set" :: rr) = .inr (S, m' + 1) := by
            rw [st, fin0]
            rw [er]
            exact ex_bad0 hv nx nes oke
          exact ⟨F0, _, _, rfl, rfl, add (.set x e .nil) p (m' + 1) (k' + 1) H7 ⟨.one hn st2, by rw [ls_drop hn, er]; rfl, rfl, hlt, rfl, ⟨nx, nes, oke, by omega, trivial⟩⟩ (by omega) hm60 k7 r7 (.set ep eq .nil)⟩
        refine ⟨.str x0, rfl, rfl, _, rfl, ite2 (fun z => absurd z (no h1)) (fun _ => ?_)⟩
        by_cases h2 : x0 = "tell"
        · subst h2
          have st : step v S m' ("tell" :: rr) = K9.fin (badAt [.name] rr 2) (S, m' + 1) := by rw [nr, if_neg h1, if_pos rfl]
          refine ⟨.str "tell", rfl, rfl, _, rfl, ite2 (fun _ => ?_) (fun z => absurd (decide_eq_true rfl) z)⟩
          refine ⟨.ref F0, rfl, .inl ⟨rfl, _, SqL.of eF2⟩, .ref a.p, rfl, a.p, a.dx, _, rfl, rC.rd.o, rfl, .ref W, rfl, a, A, some v, k', m' + 1, Tw A k', ln, W, "tell", rr, rfl, eW2, nm_tell, rC, sz, hn, by omega, fun bad => eb _ (by rw [st, fin1 bad]), fun x H7 er nx k7 r7 => ⟨(show 2 ≤ sizeLine by decide), fun p hp => ?_⟩⟩
          rw [← twn] at r7
          subst er
          have kp : Kept None H7 (upd H7 p (.tup [.str "tell", .str x])) := Kept.refl.new hp
          exact ⟨F0, _, _, rfl, rfl, add (.tell x .nil) p (m' + 1) (k' + 1) _ ⟨.one hn (by rw [st, fin0 ((fit1 (s := .name)).mpr nx)]), by rw [ls_drop hn]; rfl, rfl, hlt, rfl, ⟨nx, by omega, trivial⟩⟩ (by omega) hm60 (k7.trans (kp.weak fun _ z => z.elim)) (r7.stay kp) (.tell upd_same .nil)⟩
        refine ⟨.str x0, rfl, rfl, _, rfl, ite2 (fun z => absurd z (no h2)) (fun _ => ?_)⟩
        by_cases h3 : x0 = "if"
        · subst h3
          refine ⟨.str "if", rfl, rfl, _, rfl, ite2 (fun _ => ?_) (fun z => absurd (decide_eq_true rfl) z)⟩
          refine ⟨.ref F0, rfl, .inl ⟨rfl, _, SqL.of eF2⟩, .ref a.p, rfl, a.p, a.dx, _, rfl, rC.rd.o, rfl, .ref W, rfl, .int (d : Int), rfl, .int (r : Int), rfl, a, A, v, k', m', d, r, ln, S, W, rr, rfl, eW2, hd, hr', by omega, by omega, hv, hm60, fun h => absurd h (by decide), rC, sz, hn, fun l1 w1 du => (ee l1 w1 du).of kE, fun p t m2 k2 H7 pt lt2 hm2 k7 r7 i7 => ?_⟩
          exact ⟨F0, _, _, rfl, rfl, add t p m2 k2 H7 pt lt2 hm2 k7 r7 i7⟩
        refine ⟨.str x0, rfl, rfl, _, rfl, ite2 (fun z => absurd z (no h3)) (fun _ => ?_)⟩
        by_cases h4 : x0 = "round"
        · subst h4
          refine ⟨.str "round", rfl, rfl, _, rfl, ite2 (fun _ => ?_) (fun z => absurd (decide_eq_true rfl) z)⟩
          refine ⟨.int (r : Int), rfl, (r : Int), 3, rfl, rfl, _, rfl, ite2 (fun c => ?_) (fun c => ?_)⟩
          · have hr3 : r < 3 := by
              have := of_decide_eq_true c
              omega
            refine ⟨.ref F0, rfl, .inl ⟨rfl, _, SqL.of eF2⟩, .ref a.p, rfl, a.p, a.dx, _, rfl, rC.rd.o, rfl, .ref W, rfl, .int (d : Int), rfl, .int (r : Int), rfl, a, A, v, k', m', d, r, ln, S, W, rr, rfl, eW2, hd, hr', by omega, by omega, hv, hm60, fun _ => hr3, rC, sz, hn, fun l1 w1 du => (ee l1 w1 du).of kE, fun p t m2 k2 H7 pt lt2 hm2 k7 r7 i7 => ?_⟩
            exact ⟨F0, _, _, rfl, rfl, add t p m2 k2 H7 pt lt2 hm2 k7 r7 i7⟩
          · have hr3 : ¬ rnds S < 3 := fun h => c (decide_eq_true (by omega))
            exact ⟨.ref a.p, rfl, a.p, a.dx, _, rfl, rC.rd.o, rfl, a, A, some v, k', m' + 1, Tw A k', 1, ln, _, rfl, rC, sz, hn, by decide, eb 1 (by rw [nr, if_neg h1, if_neg h2, if_neg h3, if_neg (fun h => hr3 h.2)])⟩
        refine ⟨.str x0, rfl, rfl, _, rfl, ite2 (fun z => absurd z (no h4)) (fun _ => ?_)⟩
        exact ⟨.ref a.p, rfl, a.p, a.dx, _, rfl, rC.rd.o, rfl, a, A, some v, k', m' + 1, Tw A k', 1, ln, _, rfl, rC, sz, hn, by decide, eb 1 (by rw [nr, if_neg h1, if_neg h2, if_neg h3, if_neg (fun h => h4 h.1)])⟩
      · rw [decide_eq_false hlt]
        have en : k' = (numb 1 A).length := by have := pu.top; omega
        exact iteF ⟨.ref F0, rfl, .inl ⟨F0, xs, rfl, SqL.of eA, fin (.inl en)⟩⟩
    · obtain ⟨x0, h0, p, C0, dx, fs, y, h1, h2, h3, h4, h5, x1, h6, p2, ys, h7, h8, i, j, h9, h10, b, h11, h12⟩ := h
      exact ⟨x0, h0, p, C0, dx, fs, y, h1, h2, h3, h4, h5, x1, h6, p2, ys, h7, h8, i, j, h9, h10, b, h11, hQ _ _ h12⟩
end
end K9

set_option Elab.async false
set_option linter.all false
set_option maxRecDepth 100000
set_option maxHeartbeats 4000000
namespace K9
open PySem PySem.Spec PyProof.Rows L2
abbrev sInitText : Stmt := inClass (top 30) 0
theorem scInitText : FnScope ["self", "all_lines", "words"] ["self", "all_lines"] (defScope sInitText) := ⟨rfl, rfl, rfl, by decide +kernel, rfl, by decide +kernel, by decide +kernel⟩
/-- the methods of a class's reading, each at its level -/
theorem ok_rows_all {P : Program} {w : World} {K : PySem.W.Frag} {mg : PySem.Str → Option Value} {base : Heap} {fR fS fB fG fI fD fL C D CW : Addr} {fdR fdS fdB fdG fdI fdD fdL : FuncData}
    (FR : FnM K "read_rows" "Text.read_rows" sReadRows fR fdR) (FI : FnM K "read_if" "Text.read_if" sReadIf fI fdI) (FD : FnM K "read_round" "Text.read_round" sReadRound fD fdD) (T : TxC K mg C) (B : Tab K w mg D CW)
    (mS : Meth K C "read_set" fS) (GS : FnOk P w K mg base CX0 5 fS fdS ["self", "words"] (spSet C)) (bS : Binds K fdS ["self", "words"] [])
    (mB : Meth K C "name_behind" fB) (GB : FnOk P w K mg base CX0 4 fB fdB ["self", "words"] (spNameB C)) (bB : Binds K fdB ["self", "words"] [])
    (mG : Meth K C "number_behind" fG) (GG : FnOk P w K mg base CX0 5 fG fdG ["self", "words", "kind"] (spNumB C)) (bG : Binds K fdG ["self", "words", "kind"] [])
    (mL : Meth K C "take_closing" fL) (GL : FnOk P w K mg base CX0 2 fL fdL ["self", "word"] (spClose C)) (bL : Binds K fdL ["self", "word"] [])
    (mI : Meth K C "read_if" fI) (bI : Binds K fdI ["self", "words", "deep", "rounds"] []) (mD : Meth K C "read_round" fD) (bD : Binds K fdD ["self", "words", "deep", "rounds"] []) (mR : Meth K C "read_rows" fR) (bR : Binds K fdR ["self", "deep", "rounds"] [])
    (m_len : mg "len" = none) (m_tuple : mg "tuple" = none) {t1 t2 t3 : Tok} (g1 : mg "MOST_WITHIN" = some (.int 6 t1)) (g2 : mg "MOST_ROWS" = some (.int 60 t2)) (g3 : mg "MOST_ROUNDS_WITHIN" = some (.int 3 t3)) :
    ∀ n, FnOk P w K mg base CX0 (6 + 2 * n) fR fdR ["self", "deep", "rounds"] (spReadRows C n)
  | 0 => ok_rows0 FR
  | n + 1 => by
    have GR := ok_rows_all FR FI FD T B mS GS bS mB GB bB mG GG bG mL GL bL mI bI mD bD mR bR m_len m_tuple g1 g2 g3 n
    exact ok_rows1 FR T B mS GS bS mB GB bB mI (ok_if FI T mB GB bB mL GL bL mR GR bR) bI mD (ok_round FD T mG GG bG mL GL bL mR GR bR) bD m_len m_tuple g1 g2 g3
/-! ### the reading's object, made -/
theorem Kept.freeD {D : Addr → Prop} {H H1 : Hp} (a : Kept D H H1) {p : Addr} (h : H1 p = none) (n : ¬ D p) : H p = none := by
  cases e : H p with
  | none => rfl
  | some o =>
    obtain ⟨u, q⟩ := ko_some (a p o e n)
    rw [h] at q
    cases q
def spInit (C : Addr) : Sp := fun vs H Q _ => ∃ (p dx A : Addr) (as : List Addr) (lsA : List (List PySem.Str)), vs = [.ref p, .ref A] ∧ H p = some (.ins C dx []) ∧ H A = some (.lst (as.map V.ref)) ∧ as.length = lsA.length ∧ as.length ≤ 1000000 ∧ (∀ (i : Nat) (t : Addr) (l : List PySem.Str), as[i]? = some t → lsA[i]? = some l → H t = some (.lst (l.map V.str))) ∧
  ∀ (L N B : Addr) H', H N = none → H B = none → Kept (fun b => b = p) H H' → Rd C ⟨p, dx, A, L, N, B⟩ (lsA.filter fun l => !l.isEmpty) none 0 0 0 H' → (∃ bvs : List (Key × V), H' B = some (.dK bvs) ∧ bvs.length ≤ 10) → Q .non H'
section
variable {P : Program} {w : World} {K : PySem.W.Frag} {mg : PySem.Str → Option Value} {base : Heap} {f fS fB fG fR fI fD fL C D CW : Addr} {fd fdS fdB fdG fdR fdI fdD fdL : FuncData} {n : Nat}
theorem ok_init (F : FnM K "__init__" "Text.__init__" sInitText f fd) (T : TxC K mg C) {t1 t2 t3 : Tok} (g1 : mg "WIDEST" = some (.int 12 t1)) (g2 : mg "MOST_GOINGS" = some (.int 12 t2)) (g3 : mg "MOST_SHIFT" = some (.int 11 t3)) : FnOk P w K mg base CX0 1 f fd ["self", "all_lines"] (spInit C) := by
  refine F.ok (k := 0) scInitText (fun vs H Q E h => ?_) (fun cdv A0 outer s H vs Q E hr h => ?_)
  · obtain ⟨p, dx, A, as, lsA, rfl, _⟩ := h
    rfl
  · obtain ⟨p, dx, A, as, lsA, rfl, hp, hA, hl, few, hls, q⟩ := h
    refine ⟨_, PSs.nox (pss_cons (ps_fld (pv 0) (pv 1) rfl)
    (pss_cons (ps_fld (pv 0) (pe_lc (own := [("words", 2)]) (g := gName 2) (tt := tTrV K 2) (te := tVar 2) rfl scInitText.nd (pi_list (pv 1)) (blkOk_by (own := [("words", 2)]) (N := ["self", "all_lines", "words"]) (sc := defScope sInitText) (by decide +kernel)) (by exact (fun _ _ _ _ _ => (pg_name (i := 2) scInitText.nd rfl (Or.inl rfl)))) (by exact (fun _ _ _ _ _ => (pts_one (pt_truth (pv 2) (by intro _; rfl))))) (by exact (fun _ _ _ _ _ => (pv 2)))) rfl)
    (pss_cons (ps_fld (pv 0) pe_int rfl)
    (pss_cons (ps_fld (pv 0) pe_int rfl)
    (pss_cons (ps_fld (pv 0) pe_dnewK rfl)
    (pss_one (ps_fld (pv 0) (pe_disp (pps_cons pe_str (pe_tup (pa_cons pe_int (pa_cons (pe_glob (v := .int 12) (by rfl) g1 ⟨_, rfl⟩) pa_nil))) (pps_cons pe_str (pe_tup (pa_cons pe_int (pa_cons (pe_glob (v := .int 12) (by rfl) g2 ⟨_, rfl⟩) pa_nil))) (pps_cons pe_str (pe_tup (pa_cons pe_int (pa_cons (pe_glob (v := .int 11) (by rfl) g3 ⟨_, rfl⟩) pa_nil))) pps_nil))) (by rfl) (by rfl) (fun z => by cases z) (by decide)) rfl))))))), ?_⟩
    have szl := sizeLine_eq
    refine ⟨.ref A, rfl, .ref p, rfl, p, C, dx, [], rfl, hp, T.cl, T.nA, (by decide), ?_⟩
    have k1 : Kept (fun b => b = p) H (upd H p (.ins C dx (putF "all_lines" (.ref A) []))) := Kept.refl.upd rfl
    have e1 : upd H p (.ins C dx (putF "all_lines" (.ref A) [])) p = some (.ins C dx [("all_lines", .ref A)]) := upd_same
    have np : ∀ {q : Addr} {u : HO}, H q = some u → (∀ C dx fs, u ≠ .ins C dx fs) → ¬ q = p := fun {q u} e h z => by
      rw [z, hp] at e
      exact h _ _ _ (Option.some.inj e).symm
    have hA1 := k1.lst hA (np hA (fun _ _ _ z => by cases z))
    have hls1 : ∀ (i : Nat) (t : Addr) (l : List PySem.Str), as[i]? = some t → lsA[i]? = some l → upd H p (.ins C dx (putF "all_lines" (.ref A) [])) t = some (.lst (l.map V.str)) := fun i t l h1 h2 => k1.lst (hls i t l h1 h2) (np (hls i t l h1 h2) (fun _ _ _ z => by cases z))
    generalize upd H p (.ins C dx (putF "all_lines" (.ref A) [])) = H1 at k1 e1 hA1 hls1 ⊢
    refine ⟨.ref A, rfl, A, rfl, ⟨_, SqL.of hA1⟩, fun L hL => ?_⟩
    refine lc_list (K := K) (a := A) (xs := as.map V.ref) (fun i H' => Kept None H1 H' ∧ ∃ ts : List Addr, H' L = some (.lst (ts.map V.ref)) ∧ ts.length = ((lsA.take i).filter fun l => !l.isEmpty).length ∧ ts.length ≤ i ∧ ∀ (j : Nat) (t : Addr) (l : List PySem.Str), ts[j]? = some t → ((lsA.take i).filter fun l => !l.isEmpty)[j]? = some l → H1 t = some (.lst (l.map V.str)))
      ⟨Kept.refl.new hL, [], upd_same, by simp, Nat.le_refl _, fun j t l z => by cases z⟩ (fun i H' _ h => .inl (.inl (h.1.lst hA1 (fun z => z)))) (fun i x H' hx h => ?_) (fun H' h => ?_)
    · rw [List.getElem?_map] at hx
      obtain ⟨t, ht, rfl⟩ := Option.map_eq_some_iff.mp hx
      obtain ⟨k2, ts, u1, u2, u3, u4⟩ := h
      have hi : i < as.length := (List.getElem?_eq_some_iff.mp ht).1
      have hl2 := List.getElem?_eq_getElem (l := lsA) (i := i) (by omega)
      generalize lsA[i] = l at hl2
      have et := hls1 i t l ht hl2
      refine ⟨rfl, .ref t, rfl, _, .inl ⟨_, SqL.of (k2.lst et (fun z => z)), rfl⟩, ?_⟩
      have tf := take_filter (fun l : List PySem.Str => !l.isEmpty) _ i l hl2
      have em : (l.map V.str).isEmpty = l.isEmpty := by cases l <;> rfl
      rw [em]
      cases hn : (!l.isEmpty) with
      | true =>
        rw [hn, if_pos rfl] at tf
        refine iteT ⟨.ref t, rfl, _, u1, by rw [List.length_map]; omega, fun b o e n => ?_, ts ++ [t], ?_, ?_, ?_, ?_⟩
        · rw [upd_ne (ne_of_none e hL)]
          exact k2 b o e n
        · rw [upd_same, List.map_append]; rfl
        · rw [tf, List.length_append, List.length_append, u2]; rfl
        · rw [List.length_append]; exact Nat.succ_le_succ u3
        · intro j t' l' h1 h2
          rw [tf] at h2
          by_cases hj : j < ts.length
          · rw [List.getElem?_append_left hj] at h1
            rw [List.getElem?_append_left (by omega)] at h2
            exact u4 j t' l' h1 h2
          · have hj1 : j < ts.length + 1 := by
              have := (List.getElem?_eq_some_iff.mp h1).1
              rw [List.length_append] at this
              exact this
            have hj2 : j = ts.length := by omega
            subst hj2
            rw [List.getElem?_append_right (Nat.le_refl _), Nat.sub_self] at h1
            rw [u2, List.getElem?_append_right (Nat.le_refl _), Nat.sub_self] at h2
            cases h1
            cases h2
            exact et
      | false =>
        rw [hn, if_neg Bool.false_ne_true, List.append_nil] at tf
        refine iteF ⟨k2, ts, u1, ?_, by omega, ?_⟩
        · rw [tf]; exact u2
        · rw [tf]; exact u4
    · obtain ⟨k2, ts, u1, u2, u3, u4⟩ := h
      rw [List.length_map, hl, List.take_length] at u2 u4
      have e2 := k2 p _ e1 (fun z => z)
      refine ⟨.ref p, rfl, p, C, dx, _, rfl, e2, T.cl, T.nL, (by show 1 < 1000; decide), ?_⟩
      have np1 : ∀ {q : Addr} {u : HO}, H' q = some u → (∀ C dx fs, u ≠ .ins C dx fs) → ¬ q = p := fun {q u} e h z => by
        rw [z, e2] at e
        exact h _ _ _ (Option.some.inj e).symm
      have lN : ¬ L = p := np1 u1 (fun _ _ _ z => by cases z)
      have tN : ∀ {t : Addr} {xs : List V}, H1 t = some (.lst xs) → ¬ t = p := fun {t xs} e => np1 (k2.lst e fun z => z) (fun _ _ _ z => by cases z)
      have k3 : Kept (fun b => b = p) H' (upd H' p (.ins C dx (putF "lines" (.ref L) [("all_lines", .ref A)]))) := Kept.refl.upd rfl
      have e3 : upd H' p (.ins C dx (putF "lines" (.ref L) [("all_lines", .ref A)])) p = some (.ins C dx [("all_lines", .ref A), ("lines", .ref L)]) := upd_same
      generalize upd H' p (.ins C dx (putF "lines" (.ref L) [("all_lines", .ref A)])) = H3 at k3 e3 ⊢
      refine ⟨.ref p, rfl, p, C, dx, _, rfl, e3, T.cl, T.nT, (by show 2 < 1000; decide), ?_⟩
      have k4 : Kept (fun b => b = p) H' (upd H3 p (.ins C dx (putF "taken" (.int 0) [("all_lines", .ref A), ("lines", .ref L)]))) := k3.upd rfl
      have e4 : upd H3 p (.ins C dx (putF "taken" (.int 0) [("all_lines", .ref A), ("lines", .ref L)])) p = some (.ins C dx [("all_lines", .ref A), ("lines", .ref L), ("taken", .int 0)]) := upd_same
      generalize upd H3 p (.ins C dx (putF "taken" (.int 0) [("all_lines", .ref A), ("lines", .ref L)])) = H4 at k4 e4 ⊢
      refine ⟨.ref p, rfl, p, C, dx, _, rfl, e4, T.cl, T.nM, (by show 3 < 1000; decide), ?_⟩
      have k5 : Kept (fun b => b = p) H' (upd H4 p (.ins C dx (putF "many_rows" (.int 0) [("all_lines", .ref A), ("lines", .ref L), ("taken", .int 0)]))) := k4.upd rfl
      have e5 : upd H4 p (.ins C dx (putF "many_rows" (.int 0) [("all_lines", .ref A), ("lines", .ref L), ("taken", .int 0)])) p = some (.ins C dx [("all_lines", .ref A), ("lines", .ref L), ("taken", .int 0), ("many_rows", .int 0)]) := upd_same
      generalize upd H4 p (.ins C dx (putF "many_rows" (.int 0) [("all_lines", .ref A), ("lines", .ref L), ("taken", .int 0)])) = H5 at k5 e5 ⊢
      refine fun N hN => ⟨.ref p, rfl, p, C, dx, _, rfl, (by rw [upd_ne (ne_of_none e5 hN)]; exact e5), T.cl, T.nN, (by show 4 < 1000; decide), ?_⟩
      have k6a : Kept None H5 (upd H5 N (.dK [])) := Kept.refl.new hN
      have pN : ¬ N = p := fun z => by rw [z, e5] at hN; cases hN
      have hN1 : H N = none := (k1.trans ((k2.weak fun _ z => z.elim).trans k5)).freeD hN pN
      have k6 : Kept (fun b => b = p) H' (upd (upd H5 N (.dK [])) p (.ins C dx (putF "names" (.ref N) [("all_lines", .ref A), ("lines", .ref L), ("taken", .int 0), ("many_rows", .int 0)]))) := (k5.trans (k6a.weak fun _ z => z.elim)).upd rfl
      have e6 : upd (upd H5 N (.dK [])) p (.ins C dx (putF "names" (.ref N) [("all_lines", .ref A), ("lines", .ref L), ("taken", .int 0), ("many_rows", .int 0)])) p = some (.ins C dx [("all_lines", .ref A), ("lines", .ref L), ("taken", .int 0), ("many_rows", .int 0), ("names", .ref N)]) := upd_same
      have n6 : upd (upd H5 N (.dK [])) p (.ins C dx (putF "names" (.ref N) [("all_lines", .ref A), ("lines", .ref L), ("taken", .int 0), ("many_rows", .int 0)])) N = some (.dK []) := by rw [upd_ne pN]; exact upd_same
      generalize upd (upd H5 N (.dK [])) p (.ins C dx (putF "names" (.ref N) [("all_lines", .ref A), ("lines", .ref L), ("taken", .int 0), ("many_rows", .int 0)])) = H6 at k6 e6 n6 ⊢
      refine fun B hB => ⟨(show 2 ≤ sizeLine by decide), fun w1 hw1 => ⟨(show 2 ≤ sizeLine by decide), fun w2 hw2 => ⟨(show 2 ≤ sizeLine by decide), fun w3 hw3 => ?_⟩⟩⟩
      have pB : ¬ B = p := fun z => by rw [z, e6] at hB; cases hB
      have NB : N ≠ B := fun z => by rw [← z, n6] at hB; cases hB
      have k7 : Kept None H6 (upd H6 B (.dK [])) := Kept.refl.new hB
      have b7 : upd H6 B (.dK []) B = some (.dK []) := upd_same
      generalize upd H6 B (.dK []) = H7 at k7 b7 hw1 hw2 hw3 ⊢
      have k8 : Kept None H7 (upd H7 w1 (.tup [.int 1, .int 12])) := Kept.refl.new hw1
      have a8 : upd H7 w1 (.tup [.int 1, .int 12]) w1 = some (.tup [.int 1, .int 12]) := upd_same
      generalize upd H7 w1 (.tup [.int 1, .int 12]) = H8 at k8 a8 hw2 hw3 ⊢
      have k9 : Kept None H8 (upd H8 w2 (.tup [.int 0, .int 12])) := Kept.refl.new hw2
      have a9 : upd H8 w2 (.tup [.int 0, .int 12]) w2 = some (.tup [.int 0, .int 12]) := upd_same
      generalize upd H8 w2 (.tup [.int 0, .int 12]) = H9 at k9 a9 hw3 ⊢
      have kx : Kept None H9 (upd H9 w3 (.tup [.int 0, .int 11])) := Kept.refl.new hw3
      have ax : upd H9 w3 (.tup [.int 0, .int 11]) w3 = some (.tup [.int 0, .int 11]) := upd_same
      generalize upd H9 w3 (.tup [.int 0, .int 11]) = HA at kx ax ⊢
      have bA : HA B = some (.dK []) := kx.dK (k9.dK (k8.dK b7 fun z => z) fun z => z) fun z => z
      have kA : Kept None H6 HA := k7.trans (k8.trans (k9.trans kx))
      have t1 : HA w1 = some (.tup [.int 1, .int 12]) := kx.tup (k9.tup a8 fun z => z) fun z => z
      have t2 : HA w2 = some (.tup [.int 0, .int 12]) := kx.tup a9 fun z => z
      have eA : HA p = some (.ins C dx [("all_lines", .ref A), ("lines", .ref L), ("taken", .int 0), ("many_rows", .int 0), ("names", .ref N)]) := kA p _ e6 fun z => z
      have nA : HA N = some (.dK []) := kA.dK n6 fun z => z
      have bne : ∀ {q : Addr} {u : HO}, HA q = some u → (∀ kvs, u ≠ .dK kvs) → q ≠ B := fun {q u} e h z => by
        rw [z, bA] at e
        exact h _ (Option.some.inj e).symm
      refine ⟨bA, [(Sum.inr "wide", .ref w1), (Sum.inr "goings", .ref w2), (Sum.inr "shift", .ref w3)], rfl, (by show 3 ≤ 15; decide), ?_⟩
      refine ⟨.ref p, rfl, p, C, dx, _, rfl, (by rw [upd_ne (fun z => pB z.symm)]; exact eA), T.cl, T.nB, (by show 5 < 1000; decide), ?_⟩
      have pne : ∀ {q : Addr} {u : HO}, HA q = some u → (∀ C dx fs, u ≠ .ins C dx fs) → q ≠ p := fun {q u} e h z => by
        rw [z, eA] at e
        exact h _ _ _ (Option.some.inj e).symm
      have kB : Kept (fun b => b = p) H1 HA := (k2.weak fun _ z => z.elim).trans (k6.trans (kA.weak fun _ z => z.elim))
      have hB1 : H B = none := (k1.trans ((k2.weak fun _ z => z.elim).trans k6)).freeD hB pB
      have kAll : Kept (fun b => b = p) H HA := k1.trans kB
      refine q L N B _ hN1 hB1 ((kAll.new hB1).upd rfl) ?_ ⟨_, by rw [upd_ne pB]; exact upd_same, (by show 3 ≤ 10; decide)⟩
      refine ⟨upd_same, ⟨ts, ?_, u2, fun j t l h1 h2 => ?_⟩, ⟨[], ?_, (fun q h => by cases h), Nat.zero_le _⟩, ⟨[(Sum.inr "wide", .ref w1), (Sum.inr "goings", .ref w2), (Sum.inr "shift", .ref w3)], ?_, ?_⟩, NB⟩
      · have eL : HA L = some (.lst (ts.map V.ref)) := (k6.trans (kA.weak fun _ z => z.elim)).lst u1 lN
        rw [upd_ne (pne eL (fun _ _ _ z => by cases z)), upd_ne (bne eL (fun _ z => by cases z))]
        exact eL
      · have e0 := u4 j t l h1 h2
        have et : HA t = some (.lst (l.map V.str)) := kB.lst e0 (tN e0)
        rw [upd_ne (pne et (fun _ _ _ z => by cases z)), upd_ne (bne et (fun _ z => by cases z))]
        exact et
      · rw [upd_ne pN, upd_ne NB]; exact nA
      · rw [upd_ne pB]; exact upd_same
      · intro kind lo hi h
        have up : ∀ {w : Addr} {xs : List V}, HA w = some (.tup xs) → ∀ {B0 : HO} {I0 : HO}, upd (upd HA B B0) p I0 w = some (.tup xs) := fun {w xs} e => by
          intro B0 I0
          rw [upd_ne (pne e (fun _ _ _ z => by cases z)), upd_ne (bne e (fun _ z => by cases z))]
          exact e
        cases h with
        | wide => exact ⟨w1, rfl, up t1⟩
        | goings => exact ⟨w2, rfl, up t2⟩
        | shift => exact ⟨w3, rfl, up ax⟩
end
end K9

set_option Elab.async false
set_option linter.all false
set_option maxRecDepth 100000
set_option maxHeartbeats 4000000
namespace K9
open PySem PySem.Spec PyProof.Rows L2
abbrev sReadProgram : Stmt := inClass (top 30) 1
theorem scReadProgram : FnScope ["self", "wide", "inputs", "rows"] ["self"] (defScope sReadProgram) := ⟨rfl, rfl, rfl, by decide +kernel, rfl, by decide +kernel, by decide +kernel⟩
abbrev sProgramIn : Stmt := top 29
theorem scProgramIn : FnScope ["text"] ["text"] (defScope sProgramIn) := ⟨rfl, rfl, rfl, by decide +kernel, rfl, by decide +kernel, by decide +kernel⟩
/-! ### whole programs read -/
structure Pg where
  v : Nat
  xs : List PySem.Str
  t : Tr
def Pg.lines (g : Pg) : List (List PySem.Str) := [("wide" : PySem.Str), dec g.v] :: (("in" : PySem.Str) :: g.xs) :: g.t.lines
def Pg.fine (g : Pg) : Prop := 1 ≤ g.v ∧ g.v ≤ 12 ∧ g.xs.length ≤ 4 ∧ (∀ x ∈ g.xs, Nm x) ∧ g.t.all ≤ 60 ∧ g.t.fine g.v 1 0
/-- a program at p -/
def PgAt (H : Hp) (p : Addr) (g : Pg) : Prop := ∃ (q1 q2 : Addr) (rs : List V), H p = some (.tup [.int (g.v : Int), .ref q1, .ref q2]) ∧ H q1 = some (.tup (g.xs.map V.str)) ∧ H q2 = some (.tup rs) ∧ Its H rs g.t
abbrev At5 (a : Ad) : Addr → Prop := fun b => At3 a b ∨ b = a.B
theorem Rd.word {C : Addr} {a : Ad} {ls : List (List PySem.Str)} {v k m b : Nat} {H : Hp} (r : Rd C a ls none k m b H) {t : Addr} {bvs : List (Key × V)} (e : H a.B = some (.dK bvs)) (et : H t = some (.tup [.int 0, .int ((2 ^ v - 1 : Nat) : Int)])) :
    Rd C a ls (some v) k m b (upd H a.B (.dK (putK bvs (Sum.inr "word") (.ref t)))) := by
  obtain ⟨o, ⟨ts, l1, l2, l3⟩, ⟨kvs, n1, n2, n3⟩, ⟨bvs', b1, b2⟩, nb⟩ := r
  have e3 : bvs' = bvs := HO.dK.inj (Option.some.inj (b1.symm.trans e))
  subst e3
  have ne : ∀ {q : Addr} {u : HO}, H q = some u → (∀ kvs, u ≠ .dK kvs) → q ≠ a.B := fun {q u} e2 h z => by
    rw [z, e] at e2
    exact h _ (Option.some.inj e2).symm
  refine ⟨by rw [upd_ne (ne o (fun _ z => by cases z))]; exact o, ⟨ts, by rw [upd_ne (ne l1 (fun _ z => by cases z))]; exact l1, l2, fun i t l h1 h2 => by rw [upd_ne (ne (l3 i t l h1 h2) (fun _ z => by cases z))]; exact l3 i t l h1 h2⟩, ⟨kvs, by rw [upd_ne nb]; exact n1, n2, n3⟩, ⟨_, upd_same, fun kind lo hi h => ?_⟩, nb⟩
  have old : ∀ kind lo hi, BK none kind lo hi → kind ≠ "word" → ∃ t', valV (putK bvs' (Sum.inr "word") (.ref t)) (Sum.inr kind : Key) = some (.ref t') ∧ upd H a.B (.dK (putK bvs' (Sum.inr "word") (.ref t))) t' = some (.tup [.int (lo : Int), .int (hi : Int)]) := fun kind lo hi h hk => by
    obtain ⟨t', t1, t2⟩ := b2 kind lo hi h
    refine ⟨t', ?_, by rw [upd_ne (ne t2 (fun _ z => by cases z))]; exact t2⟩
    rw [valV_put, if_neg (fun z => hk (Sum.inr.inj z))]
    exact t1
  cases h with
  | wide => exact old _ _ _ .wide (by decide)
  | goings => exact old _ _ _ .goings (by decide)
  | shift => exact old _ _ _ .shift (by decide)
  | word =>
    refine ⟨t, ?_, by rw [upd_ne (ne et (fun _ z => by cases z))]; exact et⟩
    rw [valV_put, if_pos rfl]
def linesOf (z : PySem.Str) : List (List PySem.Str) := ((rows z.cps.toList).map fun r => r.map mkS).filter fun l => !l.isEmpty
def spProgIn : Sp := fun vs H Q _ => ∃ (z : PySem.Str) (g : Pg), vs = [.str z] ∧ z.length ≤ 900000 ∧ g.fine ∧ linesOf z = g.lines ∧ ∀ p H', Kept None H H' → PgAt H' p g → Q (.ref p) H'
def spProgram (C : Addr) : Sp := fun vs H Q _ => ∃ (a : Ad) (g : Pg), vs = [.ref a.p] ∧ Rd C a g.lines none 0 0 0 H ∧ (∃ bvs : List (Key × V), H a.B = some (.dK bvs) ∧ bvs.length ≤ 10) ∧ g.fine ∧ ∀ p H', Kept (At5 a) H H' → PgAt H' p g → Q (.ref p) H'
section
variable {P : Program} {w : World} {K : PySem.W.Frag} {mg : PySem.Str → Option Value} {base : Heap} {f fS fB fG fR fI fD fL fT fP C D CW : Addr} {fd fdS fdB fdG fdR fdI fdD fdL fdT fdP : FuncData} {n : Nat}
theorem ok_program (F : FnM K "read_program" "Text.read_program" sReadProgram f fd) (T : TxC K mg C) (mT : Meth K C "take_line_of" fT) (GT : FnOk P w K mg base CX0 1 fT fdT ["self", "word"] (spTake C)) (bT : Binds K fdT ["self", "word"] [])
    (mG : Meth K C "number_behind" fG) (GG : FnOk P w K mg base CX0 5 fG fdG ["self", "words", "kind"] (spNumB C)) (bG : Binds K fdG ["self", "words", "kind"] [])
    (mI : Meth K C "read_inputs" fI) (GI : FnOk P w K mg base CX0 4 fI fdI ["self"] (spIn C)) (bI : Binds K fdI ["self"] [])
    (mR : Meth K C "read_rows" fR) (GR : FnOk P w K mg base CX0 (6 + 2 * 7) fR fdR ["self", "deep", "rounds"] (spReadRows C 7)) (bR : Binds K fdR ["self", "deep", "rounds"] []) (m_len : mg "len" = none) : FnOk P w K mg base CX0 21 f fd ["self"] (spProgram C) := by
  refine F.ok (k := 20) scReadProgram (fun vs H Q E h => ?_) (fun cdv A outer s H vs Q E hr h => ?_)
  · obtain ⟨a, g, rfl, _⟩ := h
    rfl
  · obtain ⟨a, ⟨v, xs, t⟩, rfl, r0, ⟨bv0, c1, c2⟩, ⟨v1, v2, x4, nm, few, ft⟩, q⟩ := h
    dsimp only at v1 v2 x4 nm few ft
    have hu := hu_of hr
    refine ⟨_, PSs.nox (pss_cons (ps_set (i := 1) scReadProgram.nd rfl (Or.inl rfl) (pe_meth (pv 0) T.cl mG (GG.mono (by decide)) hr bG .nil pass0 (pa_cons (pe_meth (pv 0) T.cl mT (GT.mono (by decide)) hr bT .nil pass0 (pa_cons pe_str pa_nil)) (pa_cons pe_str pa_nil))))
    (pss_cons (ps_dput hu (pe_fld (pv 0) rfl) pe_str (pe_tup (pa_cons pe_int (pa_cons (pe_op op_sub (pe_op n_bit pe_int (pv 1)) pe_int) pa_nil))) rfl)
    (pss_cons (ps_set (i := 2) scReadProgram.nd rfl (Or.inl rfl) (pe_meth0 (pv 0) T.cl mI (GI.mono (by decide)) hr bI .nil pass0))
    (pss_cons (ps_set (i := 3) scReadProgram.nd rfl (Or.inl rfl) (pe_meth (pv 0) T.cl mR GR hr bR .nil pass0 (pa_cons pe_int (pa_cons pe_int pa_nil))))
    (pss_cons (ps_if (pt_cmpR op_lt (pe_fld (pv 0) rfl) (pe_callB call_len_seq (by rfl) m_len PySem.boot_len (pa_cons (pe_fld (pv 0) rfl) pa_nil)) (nomark _))
      (pss_cons ps_never (pss_one ps_never))
      pss_nil)
    (pss_one (ps_ret (pe_tup (pa_cons (pv 1) (pa_cons (pv 2) (pa_cons (pv 3) pa_nil))))))))))), ?_⟩
    refine ⟨.ref a.p, rfl, a.p, a.dx, _, rfl, r0.o, rfl, .ref a.p, rfl, a.p, a.dx, _, rfl, r0.o, rfl, a, _, none, 0, 0, 0, "wide", [dec v], rfl, r0, rfl, fun W H1 k1 r1 eW => ?_⟩
    refine ⟨a, _, none, 1, 0, 0, v, 1, 12, W, "wide", "wide", rfl, eW, by omega, r1, .wide, v1, v2, fun H2 k2 => ?_⟩
    have r2 := r1.stay k2
    obtain ⟨bvs, hb1, hb2⟩ := r2.bd
    refine ⟨.int (v : Int), rfl, v, rfl, rfl, by omega, ((2 ^ v : Nat) : Int), 1, rfl, rfl, (show 2 ≤ sizeLine by decide), fun t0 ht0 => ?_⟩
    have tp := Nat.two_pow_pos v
    have k3 : Kept None H2 (upd H2 t0 (.tup [.int 0, .int (((2 ^ v : Nat) : Int) - 1)])) := Kept.refl.new ht0
    have e3 : upd H2 t0 (.tup [.int 0, .int (((2 ^ v : Nat) : Int) - 1)]) t0 = some (.tup [.int 0, .int ((2 ^ v - 1 : Nat) : Int)]) := by
      rw [upd_same, show ((2 ^ v : Nat) : Int) - 1 = ((2 ^ v - 1 : Nat) : Int) by omega]
    have r3 := r2.stay k3
    have hb3 := k3.dK hb1 fun z => z
    generalize upd H2 t0 (.tup [.int 0, .int (((2 ^ v : Nat) : Int) - 1)]) = H3 at k3 e3 r3 hb3 ⊢
    refine ⟨.ref a.p, rfl, a.p, C, a.dx, _, _, rfl, r3.o, T.cl, T.nB, f_B, a.B, _, rfl, DPut.k (k := (Sum.inr "word" : Key)) hb3 ?_, ?_⟩
    · have aB : ¬ At3 a a.B := by
        rintro (z | z)
        · rw [z, r0.o] at c1; cases c1
        · exact r0.nb z.symm
      have e4 := k2.dK (k1.dK c1 aB) fun z => z
      have e5 : bvs = bv0 := HO.dK.inj (Option.some.inj (hb1.symm.trans e4))
      rw [e5, sizeLine_eq]; omega
    have r4 := r3.word hb3 e3
    have k4 : Kept (At5 a) H (upd H3 a.B (.dK (putK bvs (Sum.inr "word") (.ref t0)))) := ((k1.weak fun _ z => .inl z).trans ((k2.trans k3).weak fun _ z => z.elim)).upd (.inr rfl)
    generalize upd H3 a.B (.dK (putK bvs (Sum.inr "word") (.ref t0))) = H4 at r4 k4 ⊢
    refine ⟨.ref a.p, rfl, a.p, a.dx, _, rfl, r4.o, rfl, a, _, some v, 1, 0, 0, xs, rfl, r4, rfl, x4, nm, by decide, fun q1 H5 k5 r5 e5 => ?_⟩
    refine ⟨.ref a.p, rfl, a.p, a.dx, _, rfl, r5.o, rfl, a, _, v, 2, 0, 1, 0, t, [], rfl, rfl, by decide, r5.more (by decide), v2, by simp [Pg.lines], .inl rfl, by omega, ft, fun q2 rs H6 k6 r6 e6 i6 => ?_⟩
    obtain ⟨ts, l1, l2, l3⟩ := r6.l
    refine ⟨.ref a.p, rfl, a.p, C, a.dx, _, _, rfl, r6.o, T.cl, T.nT, f_T, .ref a.p, rfl, a.p, C, a.dx, _, _, rfl, r6.o, T.cl, T.nL, f_L, a.L, _, rfl, .inl (SqL.of l1), _, _, rfl, rfl, _, rfl, ite2 (fun z => ?_) (fun _ => ?_)⟩
    · exfalso
      have z2 := of_decide_eq_true z
      rw [List.length_map, l2] at z2
      simp only [Pg.lines, List.length_cons] at z2
      omega
    refine ⟨.int (v : Int), rfl, .ref q1, rfl, .ref q2, rfl, (show 3 ≤ sizeLine by decide), fun p hp => ?_⟩
    have kp : Kept None H6 (upd H6 p (.tup [.int (v : Int), .ref q1, .ref q2])) := Kept.refl.new hp
    refine q p _ (k4.trans (((k5.trans k6).weak fun _ z => .inl z).trans (kp.weak fun _ z => z.elim))) ⟨q1, q2, rs, upd_same, kp.tup (k6.tup e5 (r5.ntup _ _ e5)) fun z => z, kp.tup e6 fun z => z, i6.stay kp fun _ _ _ z => z⟩
theorem ok_progin (F : FnP K "program_in" sProgramIn f fd) (T : TxC K mg C) (M : Mk K C fS) (GS : FnOk P w K mg base CX0 1 fS fdS ["self", "all_lines"] (spInit C)) (bS : Binds K fdS ["self", "all_lines"] []) (GR : FnOk P w K mg base CX0 2 fR fdR ["text"] spRows) (bR : Binds K fdR ["text"] []) (kR : PySem.W.keepIn K (.ref fR) = true) (gR : mg "rows_of" = some (.ref fR))
    (mP : Meth K C "read_program" fP) (GP : FnOk P w K mg base CX0 21 fP fdP ["self"] (spProgram C)) (bP : Binds K fdP ["self"] []) (m_type : mg "type" = none) (m_str : mg "str" = none) : FnOk P w K mg base CX0 22 f fd ["text"] (spProgIn) := by
  refine F.ok (k := 21) scProgramIn (fun vs H Q E h => ?_) (fun cdv A outer s H vs Q E hr h => ?_)
  · obtain ⟨z, g, rfl, _⟩ := h
    rfl
  · obtain ⟨z, g, rfl, hz, hg, hl, q⟩ := h
    have hu := hu_of hr
    refine ⟨_, PSs.nox (pss_cons (ps_if (pt_cmpR op_notTyB (pe_callTy call_type1 (by rfl) m_type (by decide +kernel) (pa_cons (pv 0) pa_nil)) (pe_bltn (v := .ty "str") (by rfl) m_str (by decide +kernel) rfl) (nomark _))
      (pss_one ps_never)
      pss_nil)
    (pss_one (ps_ret (pe_meth0 (pe_make M (GS.mono (by decide)) hr (by rfl) T.mgC bS .nil pass0 (pa_cons (pe_call (GR.mono (by decide)) hr (by rfl) gR kR bR .nil pass0 (pa_cons (pv 0) pa_nil)) pa_nil)) T.cl mP GP hr bP .nil pass0)))), ?_⟩
    refine ⟨.str z, rfl, .str z, "str", rfl, .str z, "str", "str", rfl, rfl, _, rfl, ?_⟩
    rw [decide_eq_true rfl]
    refine iteF ⟨.str z, rfl, z, rfl, by omega, fun A H1 nA k1 ⟨as, a1, a2, a3⟩ x dx hx hdx ne => ?_⟩
    have lr := rows_len z.cps.toList
    have lz : z.cps.toList.length = z.length := by simp [PySem.Str.length]
    have xA : A ≠ x := fun y => by rw [y, hx] at a1; cases a1
    have k2 : Kept None H1 (upd (upd H1 dx (.own x)) x (.ins C dx [])) := by
      refine (Kept.refl.new hdx).new ?_
      exact hx
    refine ⟨x, dx, A, as, (rows z.cps.toList).map fun r => r.map mkS, rfl, upd_same, k2.lst a1 (fun y => y), by rw [List.length_map]; exact a2, by omega, fun i t l h1 h2 => ?_, fun L N B H3 nN nB k3 r3 b3 => ⟨rfl, ?_⟩⟩
    · rw [List.getElem?_map] at h2
      obtain ⟨r, hr2, rfl⟩ := Option.map_eq_some_iff.mp h2
      rw [show (r.map mkS).map V.str = r.map wv by rw [List.map_map]; rfl]
      exact k2.lst (a3 i t r h1 hr2).1 (fun y => y)
    refine ⟨x, dx, _, rfl, r3.o, rfl, ⟨x, dx, A, L, N, B⟩, g, rfl, by rw [← hl]; exact r3, b3, hg, fun p H4 k4 pg => q p H4 ?_ pg⟩
    have kAll : Kept (At5 ⟨x, dx, A, L, N, B⟩) H1 H4 := (k2.weak fun _ y => y.elim).trans ((k3.weak fun b y => .inl (.inl y)).trans k4)
    refine k1.trans fun b o e _ => kAll b o e ?_
    rintro ((y | y) | y)
    · rw [y, hx] at e; cases e
    · rw [y, k2.free nN] at e; cases e
    · rw [y, k2.free nB] at e; cases e
end
end K9

set_option Elab.async false
set_option linter.all false
set_option maxRecDepth 100000
set_option maxHeartbeats 4000000
namespace K9
open PySem PySem.Spec PyProof.Rows L2
/-! ### whole programs read, or refused -/
section
variable {A : List (List PySem.Str)} {n v N : Nat} {ws : List PySem.Str}
theorem due_l0 (h : (numb 1 A).length = 0) : due A = some (A.length + 1, 1) := by
  unfold due
  rw [List.eq_nil_of_length_eq_zero h]
  rfl
theorem due_l1 (h : (numb 1 A)[0]? = some (n, ws)) (b : badHead "wide" [.num 1 12] ws ≠ 0) : due A = some (n, badHead "wide" [.num 1 12] ws) := by
  have e := drop_at h
  rw [List.drop_zero] at e
  unfold due
  rw [e, dueL, if_neg b]
theorem due_l2 (h : (numb 1 A)[0]? = some (n, ws)) (b : badHead "wide" [.num 1 12] ws = 0) : due A = dueR (A.length + 1) (wideOf ws) ((numb 1 A).drop 1) := by
  have e := drop_at h
  rw [List.drop_zero] at e
  unfold due
  conv => lhs; rw [e, dueL, if_pos b]
theorem due_r0 (h : (numb 1 A).length ≤ 1) : dueR N v ((numb 1 A).drop 1) = some (N, 1) := by
  rw [List.drop_eq_nil_of_le h]
  rfl
theorem due_r1 (h : (numb 1 A)[1]? = some (n, ws)) (b : badHead "in" (inS ws) ws ≠ 0) : dueR N v ((numb 1 A).drop 1) = some (n, badHead "in" (inS ws) ws) := by
  rw [drop_at h, dueR, if_neg b]
theorem due_r2 (h : (numb 1 A)[1]? = some (n, ws)) (b : badHead "in" (inS ws) ws = 0) : dueR N v ((numb 1 A).drop 1) = dueG v N [] 0 ((numb 1 A).drop 2) := by
  rw [drop_at h, dueR, if_pos b]
end
theorem badHead_ne {z : PySem.Str} {ks : List So} {ws : List PySem.Str} (h : ws.head? ≠ some z) : badHead z ks ws = 1 := by
  cases ws with
  | nil => rfl
  | cons x r =>
    show (if x = z then badAt ks r 2 else 1) = 1
    rw [if_neg (fun e => h (by rw [e]; rfl))]
theorem badHead_eq {z : PySem.Str} {ks : List So} {r : List PySem.Str} : badHead z ks (z :: r) = badAt ks r 2 := by
  unfold badHead
  dsimp only
  rw [if_pos rfl]
theorem Rf.word {C : Addr} {a : Ad} {A : List (List PySem.Str)} {v k m b : Nat} {H : Hp} (r : Rf C a A none k m b H) {t : Addr} {bvs : List (Key × V)} (e : H a.B = some (.dK bvs)) (et : H t = some (.tup [.int 0, .int ((2 ^ v - 1 : Nat) : Int)])) :
    Rf C a A (some v) k m b (upd H a.B (.dK (putK bvs (Sum.inr "word") (.ref t)))) := by
  refine ⟨r.rd.word e et, ?_⟩
  obtain ⟨as, a1, a2, a3⟩ := r.al
  have ne : ∀ {q : Addr} {xs : List V}, H q = some (.lst xs) → q ≠ a.B := fun {q xs} e2 z => by
    rw [z, e] at e2
    cases e2
  exact ⟨as, by rw [upd_ne (ne a1)]; exact a1, a2, fun i t l h1 h2 => by rw [upd_ne (ne (a3 i t l h1 h2))]; exact a3 i t l h1 h2⟩
def spProgX (C CB : Addr) : Sp := fun vs H Q E => ∃ (a : Ad) (A : List (List PySem.Str)), vs = [.ref a.p] ∧ Rf C a A none 0 0 0 H ∧ Sz A ∧ (∃ bvs : List (Key × V), H a.B = some (.dK bvs) ∧ bvs.length ≤ 10) ∧
  (∀ (ln wd : Nat) (d : Addr) H', due A = some (ln, wd) → Kept (At5 a) H H' → H' d = some (.xd [("word", .int (wd : Int)), ("line", .int (ln : Int))]) → E (.ref CB) (some d) H') ∧
  ∀ (p : Addr) (g : Pg) H', due A = none → Kept (At5 a) H H' → PgAt H' p g → g.fine → lsOf A = g.lines → Q (.ref p) H'
section
variable {P : Program} {w : World} {K : PySem.W.Frag} {mg : PySem.Str → Option Value} {base : Heap} {f fS fB fG fR fI fD fL fT fP fQ C CB D CW : Addr} {fd fdS fdB fdG fdR fdI fdD fdL fdT fdP fdQ : FuncData} {n : Nat}
theorem ok_progX (F : FnM K "read_program" "Text.read_program" sReadProgram f fd) (T : TxC K mg C) (mT : Meth K C "take_line_of" fT) (GT : FnOk P w K mg base (L2.CX P w) 4 fT fdT ["self", "word"] (spTakeX C CB)) (bT : Binds K fdT ["self", "word"] [])
    (mG : Meth K C "number_behind" fG) (GG : FnOk P w K mg base (L2.CX P w) 7 fG fdG ["self", "words", "kind"] (spNumX C CB)) (bG : Binds K fdG ["self", "words", "kind"] [])
    (mI : Meth K C "read_inputs" fI) (GI : FnOk P w K mg base (L2.CX P w) 7 fI fdI ["self"] (spInX C CB)) (bI : Binds K fdI ["self"] [])
    (mQ : Meth K C "refuse" fQ) (GQ : FnOk P w K mg base (L2.CX P w) 3 fQ fdQ ["self", "word"] (spRefuse C CB)) (bQ : Binds K fdQ ["self", "word"] [])
    (mR : Meth K C "read_rows" fR) (GR : FnOk P w K mg base (L2.CX P w) (8 + 2 * 7) fR fdR ["self", "deep", "rounds"] (spRowsX C CB 7)) (bR : Binds K fdR ["self", "deep", "rounds"] []) (m_len : mg "len" = none) : FnOk P w K mg base (L2.CX P w) 23 f fd ["self"] (spProgX C CB) := by
  refine F.ok (k := 22) scReadProgram (fun vs H Q E h => ?_) (fun cdv A outer s H vs Q E hr h => ?_)
  · obtain ⟨a, A, rfl, _⟩ := h
    rfl
  · obtain ⟨a, A, rfl, r0, sz, ⟨bv0, c1, c2⟩, e, q⟩ := h
    have hu := hu_of hr
    refine ⟨_, pss_cons (ps_set (i := 1) scReadProgram.nd rfl (Or.inl rfl) (pe_meth (pv 0) T.cl mG (GG.mono (by decide)) hr bG .nil (passes_call (takes_of rfl rfl rfl rfl) (fun _ _ _ _ h => h)) (pa_cons (pe_meth (pv 0) T.cl mT (GT.mono (by decide)) hr bT .nil (passes_call (takes_of rfl rfl rfl rfl) (fun _ _ _ _ h => h)) (pa_cons pe_str pa_nil)) (pa_cons pe_str pa_nil))))
    (pss_cons (ps_dput hu (pe_fld (pv 0) rfl) pe_str (pe_tup (pa_cons pe_int (pa_cons (pe_op op_sub (pe_op n_bit pe_int (pv 1)) pe_int) pa_nil))) rfl)
    (pss_cons (ps_set (i := 2) scReadProgram.nd rfl (Or.inl rfl) (pe_meth0 (pv 0) T.cl mI (GI.mono (by decide)) hr bI .nil (passes_call (takes_of rfl rfl rfl rfl) (fun _ _ _ _ h => h))))
    (pss_cons (ps_set (i := 3) scReadProgram.nd rfl (Or.inl rfl) (pe_meth (pv 0) T.cl mR GR hr bR .nil (passes_call (takes_of rfl rfl rfl rfl) (fun _ _ _ _ h => h)) (pa_cons pe_int (pa_cons pe_int pa_nil))))
    (pss_cons (ps_if (pt_cmpR op_lt (pe_fld (pv 0) rfl) (pe_callB call_len_seq (by rfl) m_len PySem.boot_len (pa_cons (pe_fld (pv 0) rfl) pa_nil)) (nomark _))
      (pss_cons (ps_fldaug (pv 0) pe_int in_add)
      (pss_one (ps_expr (pe_meth (pv 0) T.cl mQ (GQ.mono (by decide)) hr bQ .nil (passes_call (takes_of rfl rfl rfl rfl) (fun _ _ _ _ h => h)) (pa_cons pe_int pa_nil)))))
      pss_nil)
    (pss_one (ps_ret (pe_tup (pa_cons (pv 1) (pa_cons (pv 2) (pa_cons (pv 3) pa_nil)))))))))), ?_⟩
    have nL := numb_ls A
    have e5 : ∀ {H1 : Hp} {ln wd : Nat}, Kept (At5 a) H H1 → due A = some (ln, wd) → Rz CB a H1 E ln wd := fun k1 du d H' k2 hd => e _ _ d H' du (k1.trans (k2.weak fun _ z => .inl z)) hd
    refine ⟨.ref a.p, rfl, a.p, a.dx, _, rfl, r0.rd.o, rfl, .ref a.p, rfl, a.p, a.dx, _, rfl, r0.rd.o, rfl, a, A, none, 0, 0, 0, "wide", rfl, r0, sz, Nat.zero_le _, fun h0 => e5 Kept.refl (due_l0 h0.symm), fun n ws hn hh => ?_, fun n1 r W H1 hn1 k1 r1 eW => ?_⟩
    · have bh : badHead "wide" [.num 1 12] ws = 1 := badHead_ne hh
      have du := due_l1 hn (by rw [bh]; decide)
      rw [bh] at du
      exact e5 Kept.refl du
    have k1' : Kept (At5 a) H H1 := k1.weak fun _ z => .inl z
    refine ⟨a, A, none, 0, 0, 0, n1, 1, 12, W, "wide", "wide", r, rfl, eW, .wide, r1, sz, hn1, fun bad => e5 k1' (by rw [due_l1 hn1 (by rw [badHead_eq]; exact bad), badHead_eq]), fun v x H2 er hx k2 => ?_⟩
    subst er
    obtain ⟨_, v1, v2⟩ := numW_some hx
    have du2 := due_l2 hn1 (by rw [badHead_eq]; exact (fit1 (s := .num 1 12)).mpr (by rw [So.fits, hx]; rfl))
    have ewo : wideOf ["wide", x] = v := by
      unfold wideOf
      show (numW 1 12 x).getD 0 = v
      rw [hx]
      rfl
    rw [ewo] at du2
    have exd := numW_dec hx (by decide)
    have r2 := r1.stay k2
    obtain ⟨bvs, hb1, hb2⟩ := r2.rd.bd
    refine ⟨.int (v : Int), rfl, v, rfl, rfl, by omega, ((2 ^ v : Nat) : Int), 1, rfl, rfl, (show 2 ≤ sizeLine by decide), fun t0 ht0 => ?_⟩
    have tp := Nat.two_pow_pos v
    have k3 : Kept None H2 (upd H2 t0 (.tup [.int 0, .int (((2 ^ v : Nat) : Int) - 1)])) := Kept.refl.new ht0
    have e3 : upd H2 t0 (.tup [.int 0, .int (((2 ^ v : Nat) : Int) - 1)]) t0 = some (.tup [.int 0, .int ((2 ^ v - 1 : Nat) : Int)]) := by
      rw [upd_same, show ((2 ^ v : Nat) : Int) - 1 = ((2 ^ v - 1 : Nat) : Int) by omega]
    have r3 := r2.stay k3
    have hb3 := k3.dK hb1 fun z => z
    generalize upd H2 t0 (.tup [.int 0, .int (((2 ^ v : Nat) : Int) - 1)]) = H3 at k3 e3 r3 hb3 ⊢
    refine ⟨.ref a.p, rfl, a.p, C, a.dx, _, _, rfl, r3.rd.o, T.cl, T.nB, f_B, a.B, _, rfl, DPut.k (k := (Sum.inr "word" : Key)) hb3 ?_, ?_⟩
    · have aB : ¬ At3 a a.B := by
        rintro (z | z)
        · rw [z, r0.rd.o] at c1; cases c1
        · exact r0.rd.nb z.symm
      have e4 := k2.dK (k1.dK c1 aB) fun z => z
      have e5 : bvs = bv0 := HO.dK.inj (Option.some.inj (hb1.symm.trans e4))
      rw [e5, sizeLine_eq]; omega
    have r4 := r3.word hb3 e3
    have k4 : Kept (At5 a) H (upd H3 a.B (.dK (putK bvs (Sum.inr "word") (.ref t0)))) := (k1'.trans ((k2.trans k3).weak fun _ z => z.elim)).upd (.inr rfl)
    generalize upd H3 a.B (.dK (putK bvs (Sum.inr "word") (.ref t0))) = H4 at r4 k4 ⊢
    have l1 : 1 ≤ (numb 1 A).length := lt_of_get hn1
    refine ⟨.ref a.p, rfl, a.p, a.dx, _, rfl, r4.rd.o, rfl, a, A, some v, 1, 0, 0, rfl, r4, sz, l1, fun n ws hn => ?_, fun h0 => e5 k4 (by rw [du2, due_r0 (by omega)]), fun n ws hn bad => e5 k4 (by rw [du2, due_r1 hn bad]), fun n2 xs q1 H5 hn2 x4 nm k5 r5 ep5 => ?_⟩
    · have h2 : Tw A 2 = Tw A 1 + ws.length := Tw.next hn
      have := sz.tw 2
      omega
    have k5' : Kept (At5 a) H H5 := k4.trans (k5.weak fun _ z => .inl z)
    have bin : badHead "in" (inS (("in" : PySem.Str) :: xs)) (("in" : PySem.Str) :: xs) = 0 := by
      rw [badHead_eq]
      unfold inS
      rw [List.length_cons, Nat.add_sub_cancel, Nat.min_eq_left x4]
      exact (bad_names (by decide)).mpr ⟨rfl, List.all_eq_true.mpr nm⟩
    have du3 := due_r2 (N := A.length + 1) (v := v) hn2 bin
    have l2 : 2 ≤ (numb 1 A).length := lt_of_get hn2
    have tw2 : xs.length + 1 ≤ Tw A 2 := by
      have h2 : Tw A 2 = Tw A 1 + (("in" : PySem.Str) :: xs).length := Tw.next hn2
      rw [List.length_cons] at h2
      omega
    refine ⟨.ref a.p, rfl, a.p, a.dx, _, rfl, r5.rd.o, rfl, a, A, v, 2, 0, 1, 0, [], rfl, rfl, rfl, rfl, by decide, v2, by decide, r5.more (by omega), sz, l2, fun ln wd du => e5 k5' (by rw [du2, du3, du]), fun q2 rs t m6 k6 H6 pt en hm6 kk6 r6 ep6 i6 => ?_⟩
    have k6' : Kept (At5 a) H H6 := k5'.trans (kk6.weak fun _ z => .inl z)
    obtain ⟨ts, l1', l2', l3'⟩ := r6.rd.l
    refine ⟨.ref a.p, rfl, a.p, C, a.dx, _, _, rfl, r6.rd.o, T.cl, T.nT, f_T, .ref a.p, rfl, a.p, C, a.dx, _, _, rfl, r6.rd.o, T.cl, T.nL, f_L, a.L, _, rfl, .inl (SqL.of l1'), _, _, rfl, rfl, _, rfl, ite2 (fun z => ?_) (fun z => ?_)⟩
    · have z2 := of_decide_eq_true z
      rw [List.length_map, l2'] at z2
      rcases en with h | ⟨n7, ws7, hn7, hc⟩
      · omega
      have st : step v [] m6 ws7 = .inl 1 := by
        obtain ⟨r7, rfl | rfl⟩ := hc
        · rw [step, if_pos rfl]; rfl
        · rw [step, if_neg (by decide), if_pos rfl]; rfl
      have du4 : due A = some (n7, 1) := by rw [du2, du3, pt.at, due_bad hn7 st]
      refine ⟨.ref a.p, rfl, a.p, C, a.dx, _, _, rfl, r6.rd.o, T.cl, T.nT, f_T, (k6 : Int), 1, rfl, rfl, a.dx, _, r6.rd.o, (by show 6 < 1000; decide), ?_⟩
      have rB0 := r6.rd.set (k' := k6 + 1) (m' := m6)
      have kB : Kept (At3 a) H6 (upd H6 a.p (.ins C a.dx (fsT a.A a.L (k6 + 1) m6 a.N a.B))) := Kept.refl.upd (.inl rfl)
      have e1 : putF "taken" (.int ((k6 : Int) + 1)) (fsT a.A a.L k6 m6 a.N a.B) = fsT a.A a.L (k6 + 1) m6 a.N a.B := p_T (k' := k6 + 1)
      rw [e1]
      have rB := r6.keep kB rB0
      exact ⟨.ref a.p, rfl, a.p, a.dx, _, rfl, rB.rd.o, rfl, a, A, some v, k6, m6, Tw A k6, 1, n7, ws7, rfl, rB, sz, hn7, by decide, e5 (k6'.trans (kB.weak fun _ z => .inl z)) du4⟩
    · have ek : k6 = (numb 1 A).length := by
        have := pt.top
        exact Classical.byContradiction fun h => z (decide_eq_true (by rw [List.length_map, l2']; omega))
      have du4 : due A = none := by rw [du2, du3, pt.at, due_done (by omega)]
      refine ⟨.int (v : Int), rfl, .ref q1, rfl, .ref q2, rfl, (show 3 ≤ sizeLine by decide), fun p hp => ?_⟩
      have kp : Kept None H6 (upd H6 p (.tup [.int (v : Int), .ref q1, .ref q2])) := Kept.refl.new hp
      refine q p ⟨v, xs, t⟩ _ du4 (k6'.trans (kp.weak fun _ z => z.elim)) ⟨q1, q2, rs, upd_same, kp.tup (kk6.tup ep5 (r5.rd.ntup _ _ ep5)) fun z => z, kp.tup ep6 fun z => z, i6.stay kp fun _ _ _ z => z⟩ ⟨v1, v2, x4, nm, by have := pt.all; show t.all ≤ 60; omega, pt.f⟩ ?_
      have w1 := ls_drop hn1
      rw [List.drop_zero] at w1
      rw [w1, ls_drop hn2, pt.l, exd, List.drop_eq_nil_of_le (show (lsOf A).length ≤ k6 by omega), List.append_nil]
      rfl
end
end K9

set_option Elab.async false
set_option linter.all false
set_option maxRecDepth 100000
set_option maxHeartbeats 4000000
namespace K9
open PySem PySem.Spec PyProof.Rows L2
/-! ### the lines of a text -/
def rowsS (z : PySem.Str) : List (List PySem.Str) := (rows z.cps.toList).map fun r => r.map mkS
theorem lsOf_rows (z : PySem.Str) : lsOf (rowsS z) = linesOf z := rfl
theorem parts_sum (c : Nat) : ∀ l : List Nat, ((parts c l).map fun w => w.length + 1).sum = l.length + 1
  | [] => rfl
  | x :: l => by
    have ih := parts_sum c l
    by_cases h : x = c
    · subst h
      rw [parts_hit, List.map_cons, List.sum_cons, ih, List.length_nil, List.length_cons]
      omega
    · rw [parts_miss h]
      unfold parts at ih
      rw [List.map_cons, List.sum_cons] at ih ⊢
      rw [List.length_cons, List.length_cons]
      omega
theorem sum_filter {α : Type} (p : List α → Bool) : ∀ L : List (List α), ((L.filter p).map List.length).sum ≤ (L.map List.length).sum
  | [] => Nat.le_refl _
  | x :: L => by
    have := sum_filter p L
    rw [List.filter_cons]
    split
    · simp only [List.map_cons, List.sum_cons]; omega
    · simp only [List.map_cons, List.sum_cons]; omega
theorem sum_words : ∀ L : List (List Nat), ((L.map words).map List.length).sum ≤ (L.map fun w => w.length + 1).sum
  | [] => Nat.le_refl _
  | w :: L => by
    have h1 := sum_words L
    have h2 := words_len w
    simp only [List.map_cons, List.sum_cons]
    omega
theorem sz_rows {z : PySem.Str} (h : z.length ≤ 900000) : Sz (rowsS z) := by
  have hl := len_list z
  have szl := sizeLine_eq
  refine ⟨?_, ?_, fun l hl2 x hx => ?_⟩
  · unfold rowsS
    rw [List.length_map]
    have := rows_len z.cps.toList
    omega
  · refine Nat.le_trans (sum_filter _ _) ?_
    unfold rowsS rows
    have e : ((((parts 10 z.cps.toList).map words).map fun r => r.map mkS).map List.length) = ((parts 10 z.cps.toList).map words).map List.length := by
      rw [List.map_map]
      exact List.map_congr_left fun r _ => List.length_map _
    rw [e]
    have h1 := sum_words (parts 10 z.cps.toList)
    have h2 := parts_sum 10 z.cps.toList
    omega
  · unfold rowsS rows at hl2
    rw [List.map_map] at hl2
    obtain ⟨r, hr, rfl⟩ := List.mem_map.mp hl2
    obtain ⟨y, hy, rfl⟩ := List.mem_map.mp hx
    have h1 := parts_mem_len 10 _ r hr
    have h2 := parts_mem_len 32 _ y (List.mem_filter.mp hy).1
    rw [mkS_len]
    omega
def spPinX (K : PySem.W.Frag) (CB : Addr) : Sp := fun vs H Q E => ∃ (x : V) (T : String), vs = [x] ∧ TyB K H x T ∧
  (T ≠ "str" → ∀ d H', Kept None H H' → H' d = some (.xd [("word", .int ((0 : Nat) : Int)), ("line", .int ((0 : Nat) : Int))]) → E (.ref CB) (some d) H') ∧
  ∀ z, x = .str z → z.length ≤ 900000 ∧
    (∀ (ln wd : Nat) d H', due (rowsS z) = some (ln, wd) → Kept None H H' → H' d = some (.xd [("word", .int (wd : Int)), ("line", .int (ln : Int))]) → E (.ref CB) (some d) H') ∧
    ∀ (p : Addr) (g : Pg) H', due (rowsS z) = none → Kept None H H' → PgAt H' p g → g.fine → linesOf z = g.lines → Q (.ref p) H'
section
variable {P : Program} {w : World} {K : PySem.W.Frag} {mg : PySem.Str → Option Value} {base : Heap} {f fS fB fR fP C CB : Addr} {fd fdS fdB fdR fdP : FuncData}
theorem tyB_str {H : Hp} {x : V} {T : String} (h : TyB K H x T) : (T ≠ "str" ∧ ∀ z, x ≠ .str z) ∨ ∃ z, x = .str z ∧ T = "str" := by
  cases h with
  | str z => exact .inr ⟨z, rfl, rfl⟩
  | _ => exact .inl ⟨by decide, fun z e => by cases e⟩
theorem ok_pinX (F : FnP K "program_in" sProgramIn f fd) (T : TxC K mg C) (M : Mk K C fS) (GS : FnOk P w K mg base CX0 1 fS fdS ["self", "all_lines"] (spInit C)) (bS : Binds K fdS ["self", "all_lines"] []) (GR : FnOk P w K mg base CX0 2 fR fdR ["text"] spRows) (bR : Binds K fdR ["text"] []) (kR : PySem.W.keepIn K (.ref fR) = true) (gR : mg "rows_of" = some (.ref fR)) (MB : BtC P w K mg base CB fB fdB)
    (mP : Meth K C "read_program" fP) (GP : FnOk P w K mg base (L2.CX P w) 23 fP fdP ["self"] (spProgX C CB)) (bP : Binds K fdP ["self"] []) (m_type : mg "type" = none) (m_str : mg "str" = none) : FnOk P w K mg base (L2.CX P w) 24 f fd ["text"] (spPinX K CB) := by
  refine F.ok (k := 23) scProgramIn (fun vs H Q E h => ?_) (fun cdv A outer s H vs Q E hr h => ?_)
  · obtain ⟨x, T, rfl, _⟩ := h
    rfl
  · obtain ⟨x, T0, rfl, ty, e0, qz⟩ := h
    have hu := hu_of hr
    refine ⟨_, pss_cons (ps_if (pt_cmpR op_notTyB (pe_callTy call_type1 (by rfl) m_type (by decide +kernel) (pa_cons (pv 0) pa_nil)) (pe_bltn (v := .ty "str") (by rfl) m_str (by decide +kernel) rfl) (nomark _))
      (pss_one (ps_raise rfl (takes_of rfl rfl rfl rfl) (pmk_oex MB.c.t MB.c.i MB.c.f MB.G (hr.mono (by decide)) MB.b .nil pass0 (by rfl) MB.g (pa_cons pe_int (pa_cons pe_int pa_nil)))))
      pss_nil)
    (pss_one (ps_ret (pe_meth0 (pe_make M (GS.mono (by decide)) hr (by rfl) T.mgC bS .nil pass0 (pa_cons (pe_call (GR.mono (by decide)) hr (by rfl) gR kR bR .nil pass0 (pa_cons (pv 0) pa_nil)) pa_nil)) T.cl mP GP hr bP .nil (passes_call (takes_of rfl rfl rfl rfl) (fun _ _ _ _ h => h))))), ?_⟩
    refine ⟨x, rfl, x, T0, rfl, ty, T0, "str", rfl, rfl, _, rfl, ?_⟩
    rcases tyB_str ty with ⟨ne, nz⟩ | ⟨z, rfl, rfl⟩
    · rw [decide_eq_false ne]
      refine iteT ⟨(show 2 ≤ 1000 by decide), ?_⟩
      exact made_gone (R := fun x H2 d fs => E (.ref CB) (some d) (upd (del H2 x) d (.xd fs))) (small_nat (n := 0) (by decide)) (small_nat (n := 0) (by decide)) fun x d H2 H' e k hd => by
        rw [← e]
        exact e0 ne d H' k hd
    · obtain ⟨hz, ez, q⟩ := qz z rfl
      rw [decide_eq_true rfl]
      refine iteF ⟨.str z, rfl, z, rfl, by omega, fun A H1 nA k1 ⟨as, a1, a2, a3⟩ x dx hx hdx ne => ?_⟩
      have lr := rows_len z.cps.toList
      have lz : z.cps.toList.length = z.length := by simp [PySem.Str.length]
      have k2 : Kept None H1 (upd (upd H1 dx (.own x)) x (.ins C dx [])) := by
        refine (Kept.refl.new hdx).new ?_
        exact hx
      have a3' : ∀ {H2 : Hp}, Kept None H1 H2 → ∀ (i : Nat) (t : Addr) (l : List PySem.Str), as[i]? = some t → (rowsS z)[i]? = some l → H2 t = some (.lst (l.map V.str)) := fun k i t l h1 h2 => by
        unfold rowsS at h2
        rw [List.getElem?_map] at h2
        obtain ⟨r, hr2, rfl⟩ := Option.map_eq_some_iff.mp h2
        rw [show (r.map mkS).map V.str = r.map wv by rw [List.map_map]; rfl]
        exact k.lst (a3 i t r h1 hr2).1 (fun y => y)
      have len2 : as.length = (rowsS z).length := by unfold rowsS; rw [List.length_map]; exact a2
      have a1' := k2.lst a1 (fun y => y)
      generalize hH2 : upd (upd H1 dx (.own x)) x (.ins C dx []) = H2 at k2 a1'
      have hx2 : H2 x = some (.ins C dx []) := by rw [← hH2]; exact upd_same
      refine ⟨x, dx, A, as, rowsS z, rfl, hx2, a1', len2, by omega, a3' k2, fun L N B H3 nN nB k3 r3 b3 => ⟨rfl, ?_⟩⟩
      have nx : ∀ {q : Addr} {xs : List V}, H2 q = some (.lst xs) → q ≠ x := fun {q xs} e y => by
        rw [y, hx2] at e
        cases e
      have r3' : Rf C ⟨x, dx, A, L, N, B⟩ (rowsS z) none 0 0 0 H3 := ⟨r3, as, k3.lst a1' (nx a1'), len2, fun i t l h1 h2 => k3.lst (a3' k2 i t l h1 h2) (nx (a3' k2 i t l h1 h2))⟩
      have kf : ∀ {H4 : Hp}, Kept (At5 ⟨x, dx, A, L, N, B⟩) H3 H4 → Kept None H H4 := fun {H4} k4 => by
        have kAll : Kept (At5 ⟨x, dx, A, L, N, B⟩) H1 H4 := (k2.weak fun _ y => y.elim).trans ((k3.weak fun b y => .inl (.inl y)).trans k4)
        refine k1.trans fun b o e _ => kAll b o e ?_
        rintro ((y | y) | y)
        · rw [y, hx] at e; cases e
        · rw [y, k2.free nN] at e; cases e
        · rw [y, k2.free nB] at e; cases e
      exact ⟨x, dx, _, rfl, r3.o, rfl, ⟨x, dx, A, L, N, B⟩, rowsS z, rfl, r3', sz_rows hz, b3, fun ln wd d H' du k4 hd => ez ln wd d H' du (kf k4) hd, fun p g H4 du k4 pg fg hl => q p g H4 du (kf k4) pg fg (by rw [← lsOf_rows]; exact hl)⟩
end
end K9

set_option Elab.async false
set_option linter.all false
set_option maxRecDepth 100000
set_option maxHeartbeats 4000000
namespace K9
open PySem PySem.Spec PyProof.Rows L2
/-! ### a refusal that is kept: its class, its fields -/
section
variable {X : Cx}
theorem hex_inst {pins : List (Addr × Obj)} {σ : L2.St} {H : Hp} {s : Shared} {a C d : Addr} {fs : List (PySem.Str × V)} (I : Inv X pins σ H s) (h : H a = some (Hex (.ref C) (some d) a)) (hd : H d = some (.xd fs)) :
    ∃ (ox od : Obj), PySem.W.InstAt s.heap a ox C (some od) ∧ ∀ {f : PySem.Str} {v : V}, fs.lookup f = some v → ∃ u, PySem.W.lookIn f od = some (some u) ∧ RelV v u := by
  obtain ⟨oe, vs, e, z, dd⟩ := hex_at I.hok h
  have x : ObjOk X.prog X.w H s.heap d (.xd fs) := I.hok d _ hd
  obtain ⟨mA, hns, hr⟩ := x
  obtain ⟨od, ho, hl⟩ := lookIn_ns hns
  refine ⟨oe, od, ⟨e, z.1, by unfold PySem.W.notCls; rw [dd] <;> rfl, by rw [z.2]; exact ho⟩, fun {f v} l => ?_⟩
  obtain ⟨u, hu, ru⟩ := RelO.some_of (v := v) (o := mA f) (by rw [← l]; exact hr f)
  exact ⟨u, by rw [hl, hu], ru⟩
/-- isinstance(error, c), c a class or a tuple of such -/
def rIsX (K : PySem.W.Frag) : List V → Hp → VK → Prop := fun xs H Q => ∃ (a C d : Addr) (fs : List (PySem.Str × V)) (c : V), xs = [.ref a, c] ∧ ExcC K C ∧ H a = some (Hex (.ref C) (some d) a) ∧ H d = some (.xd fs) ∧
  ((∃ cv b, ClsV c cv ∧ PySem.W.kitOne K (.ref C) cv = some b ∧ Q (.bl b) H) ∨ ∃ (tp : Addr) (cs : List V) (us : List Value) (b : Bool), c = .ref tp ∧ H tp = some (.tup cs) ∧ Paired ClsV cs us ∧ PySem.W.kitAny K (.ref C) us = some b ∧ Q (.bl b) H)
theorem call_isX : CallR X (.builtin "isinstance") (rIsX X.K) := by
  intro pins s σ H xs us Q I r h
  obtain ⟨a, C, d, fs, c, rfl, T, ha, hd, h⟩ := h
  obtain ⟨u1, u2, rfl, r1, r2⟩ := vals2 r
  cases (show u1 = Value.ref a from r1)
  obtain ⟨ox, od, J, _⟩ := hex_inst I ha hd
  obtain ⟨cd, hcd, _⟩ := PySem.W.any_some T.hd
  have Z := PySem.W.kitx_exc (x := a) (ox := ox) (od := some od) (by rw [hcd]; rfl : (PySem.W.clsIn X.K C).isSome = true) T.hg T.hk T.hs T.ha T.hn T.ht T.hm
  rcases h with ⟨cv, b, k, e, q⟩ | ⟨tp, cs, ws, b, rfl, hT, k, e, q⟩
  · have e2 := k.eq r2
    subst e2
    exact PySem.W.kia_one Z I.kIn J e (fun z => nomatch z) fun tk => ⟨.bl b, H, I.tok tk, rfl, q⟩
  · cases (show u2 = Value.ref tp from r2)
    obtain ⟨_, its, rv, o, h1, h2, n, h3⟩ := (show ObjOk X.prog X.w H s.heap tp (.tup cs) from I.hok tp _ hT)
    have e3 := ClsV.all k rv
    subst e3
    obtain ⟨oc, odd, dt, sl⟩ := o
    simp only at h2 h3
    subst h2 h3
    exact PySem.W.kia_tup Z I.kIn J h1 e (fun z => nomatch z) fun tk => ⟨.bl b, H, I.tok tk, rfl, q⟩
/-- error.f -/
def tFldX (K : PySem.W.Frag) (f : PySem.Str) (te : TE) : TE := fun σ H Q => te σ H fun x H1 => ∃ (a C d : Addr) (fs : List (PySem.Str × V)) (v : V), x = .ref a ∧ XfC K C ∧ PySem.W.findIn K (.ref C) f = some none ∧ H1 a = some (Hex (.ref C) (some d) a) ∧ H1 d = some (.xd fs) ∧ fs.lookup f = some v ∧ Q v H1
theorem pe_fldX {e : Expr} {te : TE} {pos : Pos} {f : PySem.Str} (he : PE X e te) (hb : attributeBase e f X.env (eval e X.env) = eval e X.env := by rfl) : PE X (.Attribute e f pos) (tFldX X.K f te) := by
  refine ⟨fun pins s σ H Q I h => attr_of hb (thn (he.run pins s σ H _ I h) fun u s1 hh => ?_)⟩
  obtain ⟨x, H1, I1, rx, a, C, d, fs, v, rfl, T, hno, ha, hd, hl, q⟩ := hh
  cases (show u = Value.ref a from rx)
  obtain ⟨ox, od, J, look⟩ := hex_inst I1 ha hd
  obtain ⟨u, hu, ru⟩ := look hl
  exact HandSPX.exc_get I1.kIn J T.ga T.gg T.exC (PySem.W.findObj_own T.hdC hno rfl hu) (handed_of ru) ⟨v, H1, I1.tok _, ru, q⟩
end
abbrev sLClass : Stmt := top 42
theorem scLClass : FnScope ["error", "others"] ["error"] (defScope sLClass) := ⟨rfl, rfl, rfl, by decide +kernel, rfl, by decide +kernel, by decide +kernel⟩
def fsX (ln wd : Nat) : List (PySem.Str × V) := [("word", .int (wd : Int)), ("line", .int (ln : Int))]
def Refd (H : Hp) (a CB : Addr) (ln wd : Nat) : Prop := ∃ d, H a = some (Hex (.ref CB) (some d) a) ∧ H d = some (.xd (fsX ln wd))
theorem Refd.stay {H H1 : Hp} {a CB : Addr} {ln wd : Nat} (r : Refd H a CB ln wd) (k : Kept None H H1) : Refd H1 a CB ln wd := by
  obtain ⟨d, h1, h2⟩ := r
  exact ⟨d, k a _ h1 (fun z => z), k d _ h2 (fun z => z)⟩
def spClass (CB : Addr) : Sp := fun vs H Q _ => ∃ (a : Addr) (ln wd : Nat), vs = [.ref a] ∧ Refd H a CB ln wd ∧ ∀ p H', Kept None H H' → H' p = some (.lst [.int (ln : Int), .int (wd : Int)]) → Q (.ref p) H'
/-- another class -/
structure Oth (K : PySem.W.Frag) (mg : PySem.Str → Option Value) (CB : Addr) (x : PySem.Str) (c : Addr) : Prop where
  g : mg x = some (.ref c)
  n : PySem.W.kitOne K (.ref CB) (.ref c) = some false
structure ClC (K : PySem.W.Frag) (mg : PySem.Str → Option Value) (CB : Addr) (c : PySem.Str → Addr) : Prop where
  o : ∀ x ∈ (["BadAsked", "BadFacts", "BadInput", "BadLine", "BadPaper", "BadPlace", "BadProgram", "BadWidths", "TooMany", "Unsound"] : List PySem.Str), Oth K mg CB x (c x)
  b : mg "BadText" = some (.ref CB)
  kb : PySem.W.kitOne K (.ref CB) (.ref CB) = some true
  kv : PySem.W.kitOne K (.ref CB) (.type "ValueError") = some true
  x : XfC K CB
  e : ExcC K CB
  f1 : PySem.W.findIn K (.ref CB) "line" = some none
  f2 : PySem.W.findIn K (.ref CB) "word" = some none
section
variable {P : Program} {w : World} {K : PySem.W.Frag} {mg : PySem.Str → Option Value} {base : Heap} {f CB : Addr} {fd : FuncData} {c : PySem.Str → Addr}
theorem kit_nil {t : Value} : PySem.W.kitAny K t [] = some false := rfl
theorem ok_class (F : FnP K "_law_class" sLClass f fd) (T : ClC K mg CB c) (m_isinstance : mg "isinstance" = none) (m_ValueError : mg "ValueError" = none) (m_bool : mg "bool" = none) : FnOk P w K mg base CX0 1 f fd ["error"] (spClass CB) := by
  refine F.ok (k := 0) scLClass (fun vs H Q E h => ?_) (fun cdv A outer s H vs Q E hr h => ?_)
  · obtain ⟨a, ln, wd, rfl, _⟩ := h
    rfl
  · obtain ⟨a, ln, wd, rfl, rd, q⟩ := h
    have o1 := T.o "BadAsked" (by simp)
    have o2 := T.o "BadFacts" (by simp)
    have o3 := T.o "BadInput" (by simp)
    have o4 := T.o "BadLine" (by simp)
    have o5 := T.o "BadPaper" (by simp)
    have o6 := T.o "BadPlace" (by simp)
    have o7 := T.o "BadProgram" (by simp)
    have o8 := T.o "BadWidths" (by simp)
    have o9 := T.o "TooMany" (by simp)
    have o10 := T.o "Unsound" (by simp)
    refine ⟨_, PSs.nox (pss_cons (ps_set (i := 1) scLClass.nd rfl (Or.inl rfl) (pe_callB call_isX (by rfl) m_isinstance (by decide +kernel) (pa_cons (pv 0) (pa_cons (pe_tup (pa_cons (pe_glob (v := .ref (c "BadAsked")) (by rfl) o1.g rfl) (pa_cons (pe_glob (v := .ref (c "BadFacts")) (by rfl) o2.g rfl) (pa_cons (pe_glob (v := .ref (c "BadInput")) (by rfl) o3.g rfl) (pa_cons (pe_glob (v := .ref (c "BadLine")) (by rfl) o4.g rfl) (pa_cons (pe_glob (v := .ref (c "BadPaper")) (by rfl) o5.g rfl) (pa_cons (pe_glob (v := .ref (c "BadPlace")) (by rfl) o6.g rfl) (pa_cons (pe_glob (v := .ref (c "BadProgram")) (by rfl) o7.g rfl) (pa_cons (pe_glob (v := .ref (c "BadWidths")) (by rfl) o8.g rfl) pa_nil))))))))) pa_nil))))
    (pss_cons (ps_set (i := 1) scLClass.nd rfl (Or.inl rfl) (pe_or (pv 1) (pe_or (pe_callB call_isX (by rfl) m_isinstance (by decide +kernel) (pa_cons (pv 0) (pa_cons (pe_tup (pa_cons (pe_glob (v := .ref (c "TooMany")) (by rfl) o9.g rfl) (pa_cons (pe_glob (v := .ref (c "Unsound")) (by rfl) o10.g rfl) pa_nil))) pa_nil))) (pe_one (pe_not (pe_callB call_isX (by rfl) m_isinstance (by decide +kernel) (pa_cons (pv 0) (pa_cons (pe_bltn (v := .ty "ValueError") (by rfl) m_ValueError (by decide +kernel) rfl) pa_nil))))))))
    (pss_cons (ps_if (PW.pt (pw_or (pt_val (pv 1)) (pw_or (pt_not (pt_val (pe_callB call_isX (by rfl) m_isinstance (by decide +kernel) (pa_cons (pv 0) (pa_cons (pe_glob (v := .ref CB) (by rfl) T.b rfl) pa_nil))))) (pw_or (pt_val (pe_callB call_isi (by rfl) m_isinstance (by decide +kernel) (pa_cons (pe_fldX (pv 0)) (pa_cons (pe_bltn (v := .ty "bool") (by rfl) m_bool (by decide +kernel) rfl) pa_nil)))) (pw_or1 (pt_val (pe_callB call_isi (by rfl) m_isinstance (by decide +kernel) (pa_cons (pe_fldX (pv 0)) (pa_cons (pe_bltn (v := .ty "bool") (by rfl) m_bool (by decide +kernel) rfl) pa_nil)))))))))
      (pss_one (ps_ret pe_str))
      pss_nil)
    (pss_one (ps_ret (pe_lst (pa_cons (pe_fldX (pv 0)) (pa_cons (pe_fldX (pv 0)) pa_nil)))))))), ?_⟩
    refine ⟨.ref a, rfl, (show 8 ≤ sizeLine by decide), fun t1 h1 => ?_⟩
    have k1 : Kept None H (upd H t1 (.tup [.ref (c "BadAsked"), .ref (c "BadFacts"), .ref (c "BadInput"), .ref (c "BadLine"), .ref (c "BadPaper"), .ref (c "BadPlace"), .ref (c "BadProgram"), .ref (c "BadWidths")])) := Kept.refl.new h1
    obtain ⟨d, d1, d2⟩ := rd.stay k1
    refine ⟨a, CB, d, _, _, rfl, T.e, d1, d2, .inr ⟨t1, _, _, false, rfl, upd_same, .cons (.own _) (.cons (.own _) (.cons (.own _) (.cons (.own _) (.cons (.own _) (.cons (.own _) (.cons (.own _) (.cons (.own _) .nil))))))), ?_, ?_⟩⟩
    · exact kitAny_cons o1.n (fun _ => kitAny_cons o2.n (fun _ => kitAny_cons o3.n (fun _ => kitAny_cons o4.n (fun _ => kitAny_cons o5.n (fun _ => kitAny_cons o6.n (fun _ => kitAny_cons o7.n (fun _ => kitAny_cons o8.n (fun _ => kit_nil) (fun z => nomatch z)) (fun z => nomatch z)) (fun z => nomatch z)) (fun z => nomatch z)) (fun z => nomatch z)) (fun z => nomatch z)) (fun z => nomatch z)) (fun z => nomatch z)
    generalize upd H t1 (.tup [.ref (c "BadAsked"), .ref (c "BadFacts"), .ref (c "BadInput"), .ref (c "BadLine"), .ref (c "BadPaper"), .ref (c "BadPlace"), .ref (c "BadProgram"), .ref (c "BadWidths")]) = H1 at k1 d1 d2 ⊢
    refine ⟨.bl false, rfl, false, rfl, iteF ?_⟩
    refine ⟨.ref a, rfl, (show 2 ≤ sizeLine by decide), fun t2 h2 => ?_⟩
    have k2 : Kept None H1 (upd H1 t2 (.tup [.ref (c "TooMany"), .ref (c "Unsound")])) := Kept.refl.new h2
    obtain ⟨d', d1', d2'⟩ := (show Refd H1 a CB ln wd from ⟨d, d1, d2⟩).stay k2
    refine ⟨a, CB, d', _, _, rfl, T.e, d1', d2', .inr ⟨t2, _, _, false, rfl, upd_same, .cons (.own _) (.cons (.own _) .nil), kitAny_cons o9.n (fun _ => kitAny_cons o10.n (fun _ => kit_nil) (fun z => nomatch z)) (fun z => nomatch z), ?_⟩⟩
    have k02 := k1.trans k2
    generalize upd H1 t2 (.tup [.ref (c "TooMany"), .ref (c "Unsound")]) = H2 at k02 d1' d2' ⊢
    refine ⟨false, rfl, iteF ?_⟩
    refine ⟨.ref a, rfl, a, CB, d', _, _, rfl, T.e, d1', d2', .inl ⟨_, _, .ty "ValueError", T.kv, true, rfl, ?_⟩⟩
    refine ⟨.bl false, rfl, false, rfl, iteF ?_⟩
    refine ⟨.ref a, rfl, a, CB, d', _, _, rfl, T.e, d1', d2', .inl ⟨_, _, .own CB, T.kb, true, rfl, iteF ?_⟩⟩
    have l1 : (fsX ln wd).lookup ("line" : PySem.Str) = some (V.int (ln : Int)) := lk_line _ _
    have l2 : (fsX ln wd).lookup ("word" : PySem.Str) = some (V.int (wd : Int)) := lk_word _ _
    refine ⟨.ref a, rfl, a, CB, d', _, _, rfl, T.x, T.f1, d1', d2', l1, .int (ln : Int), .ty "bool", _, _, _, rfl, .ty "bool", .base (.int _), kit_ty (a := "int") (b := "bool") (r := false) (by decide +kernel), false, rfl, iteF ?_⟩
    refine ⟨.ref a, rfl, a, CB, d', _, _, rfl, T.x, T.f2, d1', d2', l2, .int (wd : Int), .ty "bool", _, _, _, rfl, .ty "bool", .base (.int _), kit_ty (a := "int") (b := "bool") (r := false) (by decide +kernel), false, rfl, iteF ?_⟩
    refine ⟨.ref a, rfl, a, CB, d', _, _, rfl, T.x, T.f1, d1', d2', l1, .ref a, rfl, a, CB, d', _, _, rfl, T.x, T.f2, d1', d2', l2, (show 2 ≤ sizeLine by decide), fun p hp => ?_⟩
    exact q p _ (k02.new (k02.free hp)) upd_same
end
end K9

set_option Elab.async false
set_option linter.all false
set_option maxRecDepth 100000
set_option maxHeartbeats 4000000
namespace K9
open PySem PySem.Spec PyProof.Rows L2
abbrev sLSaid : Stmt := top 43
theorem scLSaid : FnScope ["text", "found", "caught", "e"] ["text"] (defScope sLSaid) := ⟨rfl, rfl, rfl, by decide +kernel, rfl, by decide +kernel, by decide +kernel⟩
def spSaid (K : PySem.W.Frag) : Sp := fun vs H Q _ => ∃ (x : V) (T : String), vs = [x] ∧ TyB K H x T ∧
  (T ≠ "str" → ∀ p H', Kept None H H' → H' p = some (.lst [.int ((0 : Nat) : Int), .int ((0 : Nat) : Int)]) → Q (.ref p) H') ∧
  ∀ z, x = .str z → z.length ≤ 900000 ∧
    (∀ (ln wd : Nat) p H', due (rowsS z) = some (ln, wd) → Kept None H H' → H' p = some (.lst [.int (ln : Int), .int (wd : Int)]) → Q (.ref p) H') ∧
    ∀ (p : Addr) (g : Pg) H', due (rowsS z) = none → Kept None H H' → PgAt H' p g → g.fine → linesOf z = g.lines → Q (.ref p) H'
section
variable {P : Program} {w : World} {K : PySem.W.Frag} {mg : PySem.Str → Option Value} {base : Heap} {f fP fC CB BE : Addr} {fd fdP fdC : FuncData}
theorem ok_said (F : FnP K "_law_said" sLSaid f fd) (GP : FnOk P w K mg base (L2.CX P w) 24 fP fdP ["text"] (spPinX K CB)) (bP : Binds K fdP ["text"] []) (kP : PySem.W.keepIn K (.ref fP) = true) (gP : mg "program_in" = some (.ref fP)) (GC : FnOk P w K mg base CX0 1 fC fdC ["error"] (spClass CB)) (bC : Binds K fdC ["error"] []) (kC : PySem.W.keepIn K (.ref fC) = true) (gC : mg "_law_class" = some (.ref fC))
    (gE : mg "BitError" = some (.ref BE)) (eE : PySem.W.exmOne K (.ref CB) (.ref BE) = some true) : FnOk P w K mg base CX0 25 f fd ["text"] (spSaid K) := by
  refine F.ok (k := 24) scLSaid (fun vs H Q E h => ?_) (fun cdv A outer s H vs Q E hr h => ?_)
  · obtain ⟨x, T, rfl, _⟩ := h
    rfl
  · obtain ⟨x, T, rfl, ty, e0, qz⟩ := h
    refine ⟨_, pss_cons (ps_set (i := 1) scLSaid.nd rfl (Or.inl rfl) pe_non)
    (pss_cons (ps_set (i := 2) scLSaid.nd rfl (Or.inl rfl) pe_non)
    (pss_cons (ps_try_keep (i := 3) (ts := fun _ _ _ => tAsg (tVar 3) (gName 2)) rfl rfl rfl scLSaid.nd rfl rfl ⟨rfl, by decide, .inl gE⟩ L2.takes0 (fun W pn xe tk _ => pss_one (ps_set (i := 1) scLSaid.nd rfl (Or.inl rfl) (pe_callS GP hr (by rfl) gP kP bP (fun σ => passAt tk σ) (pa_cons (pv 0) pa_nil))))
        (fun a oe cls d pn hz hf => by exact (pss_one (ps_set (i := 2) scLSaid.nd rfl (Or.inl rfl) (pv 3)))))
    (pss_one (ps_ret (pe_ifExp (pt_cmpR op_isN (pv 2) pe_non (nomark _)) (pv 1) (pe_call (GC.mono (by decide)) hr (by rfl) gC kC bC .nil pass0 (pa_cons (pv 2) pa_nil))))))), ?_⟩
    -- what follows a refusal
    have raised : ∀ (ln wd : Nat) (d : Addr) (H1 : Hp), Kept None H H1 → H1 d = some (.xd (fsX ln wd)) → (∀ p H', Kept None H H' → H' p = some (.lst [.int (ln : Int), .int (wd : Int)]) → Q (.ref p) H') → ∀ a, H1 a = none → Kept None H (upd H1 a (Hex (.ref CB) (some d) a)) ∧
        spClass CB [.ref a] (upd H1 a (Hex (.ref CB) (some d) a)) Q (fun _ _ _ => False) := fun ln wd d H1 k1 hd q a ha => by
      have k2 : Kept None H1 (upd H1 a (Hex (.ref CB) (some d) a)) := Kept.refl.new ha
      refine ⟨k1.trans k2, a, ln, wd, rfl, ⟨d, upd_same, ?_⟩, fun p H3 k3 ep => q p H3 ((k1.trans k2).trans k3) ep⟩
      rw [upd_ne (ne_of_none hd ha)]
      exact hd
    refine ⟨x, rfl, x, T, rfl, ty, fun ne d H1 k1 hd => ⟨true, eE, fun _ a ha => ?_, fun z => nomatch z⟩, fun z hx => ?_⟩
    · exact ⟨.ref a, rfl, .ref a, rfl, rfl, _, rfl, iteF ⟨.ref a, rfl, (raised 0 0 d H1 k1 hd (e0 ne) a ha).2⟩⟩
    · obtain ⟨hz, q1, q2⟩ := qz z hx
      refine ⟨hz, fun ln wd d H1 du k1 hd => ⟨true, eE, fun _ a ha => ?_, fun z => nomatch z⟩, fun p g H1 du k1 pg fg hl => ?_⟩
      · exact ⟨.ref a, rfl, .ref a, rfl, rfl, _, rfl, iteF ⟨.ref a, rfl, (raised ln wd d H1 k1 hd (fun p H' k e => q1 ln wd p H' du k e) a ha).2⟩⟩
      · exact ⟨.non, rfl, rfl, _, rfl, iteT ⟨.ref p, rfl, q2 p g H1 du k1 pg fg hl⟩⟩
end
end K9

set_option Elab.async false
set_option linter.all false
set_option maxRecDepth 100000
set_option maxHeartbeats 4000000
namespace K9
open PySem PySem.Spec PyProof.Rows L2 TL
/-! ### lines and words: joined, taken apart -/
theorem join_list (y : PySem.Str) (ps : List PySem.Str) : (Txt.join y ps).cps.toList = joinL y.cps.toList (ps.map fun z => z.cps.toList) := by
  rw [join_eq]; exact tl_join y ps
theorem parts_app {c : Nat} : ∀ {w : List Nat} (l : List Nat), c ∉ w → parts c (w ++ c :: l) = w :: parts c l
  | [], l, _ => parts_hit c l
  | x :: w, l, h => by
    have hx : x ≠ c := fun e => h (by rw [e]; exact List.mem_cons_self)
    have ih := parts_app (w := w) l (fun z => h (List.mem_cons_of_mem _ z))
    unfold parts at ih
    obtain ⟨i1, i2⟩ := List.cons.inj ih
    rw [List.cons_append, parts_miss hx, i1, i2]
    rfl
theorem parts_one {c : Nat} : ∀ {w : List Nat}, c ∉ w → parts c w = [w]
  | [], _ => rfl
  | x :: w, h => by
    have hx : x ≠ c := fun e => h (by rw [e]; exact List.mem_cons_self)
    have ih := parts_one (w := w) (fun z => h (List.mem_cons_of_mem _ z))
    unfold parts at ih
    obtain ⟨i1, i2⟩ := List.cons.inj ih
    rw [parts_miss hx, i1, i2]
theorem parts_join {c : Nat} : ∀ {ws : List (List Nat)}, ws ≠ [] → (∀ w ∈ ws, c ∉ w) → parts c (joinL [c] ws) = ws
  | [], h, _ => absurd rfl h
  | [w], _, h => parts_one (h w List.mem_cons_self)
  | w :: x :: r, _, h => by
    show parts c (w ++ ([c] ++ joinL [c] (x :: r))) = _
    rw [List.singleton_append, parts_app _ (h w List.mem_cons_self), parts_join (by simp) (fun y hy => h y (List.mem_cons_of_mem _ hy))]
/-- a word of a line -/
def Wd (w : List Nat) : Prop := w ≠ [] ∧ 32 ∉ w
theorem words_sp (l : List Nat) : words (32 :: l) = words l := by
  unfold words
  rw [parts_hit]
  rfl
theorem words_rep (l : List Nat) : ∀ n, words (List.replicate n 32 ++ l) = words l
  | 0 => rfl
  | n + 1 => by rw [List.replicate_succ, List.cons_append, words_sp, words_rep l n]
theorem ne0_of {w : List Nat} (h : w ≠ []) : ne0 w = true := by
  cases w with
  | nil => exact absurd rfl h
  | cons a r => rfl
theorem words_cons {w : List Nat} (l : List Nat) (h : Wd w) : words (w ++ 32 :: l) = w :: words l := by
  unfold words
  rw [parts_app l h.2, List.filter_cons, if_pos (ne0_of h.1)]
theorem words_end {w : List Nat} (h : Wd w) : words w = [w] := by
  unfold words
  rw [parts_one h.2, List.filter_cons, if_pos (ne0_of h.1)]
  rfl
theorem words_rep0 (n : Nat) : words (List.replicate n 32) = [] := by
  have := words_rep [] n
  rw [List.append_nil] at this
  rw [this]
  rfl
theorem words_tail {w : List Nat} (h : Wd w) : ∀ n, words (w ++ List.replicate n 32) = [w]
  | 0 => by rw [List.replicate_zero, List.append_nil]; exact words_end h
  | n + 1 => by rw [List.replicate_succ, words_cons _ h, words_rep0]
theorem words_gap (g b : Nat) : ∀ {ws : List (List Nat)}, (∀ w ∈ ws, Wd w) → words (joinL (List.replicate (g + 1) 32) ws ++ List.replicate b 32) = ws
  | [], _ => words_rep0 b
  | [w], h => words_tail (h w List.mem_cons_self) b
  | w :: x :: r, h => by
    show words ((w ++ (List.replicate (g + 1) 32 ++ joinL (List.replicate (g + 1) 32) (x :: r))) ++ List.replicate b 32) = _
    rw [List.append_assoc, List.append_assoc, List.replicate_succ, List.cons_append, words_cons _ (h w List.mem_cons_self), words_rep, ← List.replicate_succ, words_gap g b fun y hy => h y (List.mem_cons_of_mem _ hy)]
theorem words_join {ws : List (List Nat)} (h : ∀ w ∈ ws, Wd w) : words (joinL [32] ws) = ws := by
  have := words_gap 0 0 h
  rw [List.replicate_zero, List.append_nil] at this
  exact this
theorem rows_join {ts : List (List Nat)} (h : ts ≠ []) (h2 : ∀ t ∈ ts, 10 ∉ t) : rows (joinL [10] ts) = ts.map words := by
  unfold rows
  rw [parts_join h h2]
/-! #### as texts -/
def Wt (x : PySem.Str) : Prop := x.cps.toList ≠ [] ∧ ∀ c ∈ x.cps.toList, 48 ≤ c
theorem Wt.wd {x : PySem.Str} (h : Wt x) : Wd x.cps.toList := ⟨h.1, fun z => absurd (h.2 32 z) (by decide)⟩
theorem Wt.no {x : PySem.Str} (h : Wt x) : 10 ∉ x.cps.toList := fun z => absurd (h.2 10 z) (by decide)
theorem Nm.wt {x : PySem.Str} (h : Nm x) : Wt x := by
  unfold Nm nameB at h
  dsimp only at h
  obtain ⟨h1, h2⟩ := Bool.and_eq_true_iff.mp h
  refine ⟨fun e => ?_, fun c hc => ?_⟩
  · have := of_decide_eq_true (Bool.and_eq_true_iff.mp h1).1
    rw [len_list, e] at this
    exact absurd this (by decide)
  · unfold lowB at h2
    have q := List.all_eq_true.mp h2 c hc
    have q1 := (Bool.and_eq_true_iff.mp q).1
    have ea : ("a" : PySem.Str).cps.toList = [97] := by decide +kernel
    rw [ea] at q1
    have : ¬ [c] < [97] := fun e => by rw [decide_eq_true e] at q1; cases q1
    have : ¬ c < 97 := fun e => this (List.Lex.rel e)
    omega
theorem dec_wt {n : Nat} (h : n < 4096) : Wt (dec n) := dec_plain h
theorem wt_of {x : PySem.Str} (h : Nm x) : Wt x := h.wt
/-- the text of a line -/
def spj (ws : List PySem.Str) : PySem.Str := Txt.join " " ws
/-- .. and of lines -/
def nlj (ts : List PySem.Str) : PySem.Str := Txt.join "\n" ts
theorem sp_list : (" " : PySem.Str).cps.toList = [32] := by decide +kernel
theorem nl_list : ("\n" : PySem.Str).cps.toList = [10] := by decide +kernel
/-- what a text shows: its words, if it has any -/
def shown (t : PySem.Str) : List (List PySem.Str) := if (words t.cps.toList).isEmpty then [] else [(words t.cps.toList).map mkS]
theorem linesOf_nlj {ts : List PySem.Str} (h : ts ≠ []) (h2 : ∀ t ∈ ts, 10 ∉ t.cps.toList) : linesOf (nlj ts) = ts.flatMap shown := by
  unfold linesOf nlj
  rw [join_list, nl_list, rows_join (by cases ts with | nil => exact absurd rfl h | cons a r => simp) (fun t ht => by
    obtain ⟨z, hz, rfl⟩ := List.mem_map.mp ht
    exact h2 z hz)]
  clear h h2
  induction ts with
  | nil => rfl
  | cons t r ih =>
    rw [List.flatMap_cons, ← ih, List.map_cons, List.map_cons, List.map_cons, List.filter_cons]
    unfold shown
    cases e : words t.cps.toList with
    | nil => rfl
    | cons a b => rfl
theorem map_tl (ws : List PySem.Str) : (ws.map fun z => z.cps.toList).map mkS = ws := by
  rw [List.map_map]
  conv => rhs; rw [← List.map_id ws]
  exact List.map_congr_left fun z _ => mkS_of z
theorem shown_of {t : PySem.Str} {ws : List PySem.Str} (h : words t.cps.toList = ws.map fun z => z.cps.toList) (hn : ws ≠ []) : shown t = [ws] := by
  unfold shown
  rw [h, map_tl]
  cases ws with
  | nil => exact absurd rfl hn
  | cons a r => rfl
theorem wd_map {ws : List PySem.Str} (h : ∀ w ∈ ws, Wt w) : ∀ w ∈ (ws.map fun z => z.cps.toList), Wd w := fun w hw => by
  obtain ⟨z, hz, rfl⟩ := List.mem_map.mp hw
  exact (h z hz).wd
theorem shown_spj {ws : List PySem.Str} (h : ∀ w ∈ ws, Wt w) (hn : ws ≠ []) : shown (spj ws) = [ws] := by
  refine shown_of ?_ hn
  unfold spj
  rw [join_list, sp_list, words_join (wd_map h)]
theorem joinL_no {c : Nat} {S : List Nat} (hS : c ∉ S) : ∀ {ws : List (List Nat)}, (∀ w ∈ ws, c ∉ w) → c ∉ joinL S ws
  | [], _ => by simp [joinL]
  | [w], h => h w List.mem_cons_self
  | w :: x :: r, h => by
    show c ∉ w ++ (S ++ joinL S (x :: r))
    simp only [List.mem_append, not_or]
    exact ⟨h w List.mem_cons_self, hS, joinL_no hS fun y hy => h y (List.mem_cons_of_mem _ hy)⟩
theorem spj_no {ws : List PySem.Str} (h : ∀ w ∈ ws, Wt w) : 10 ∉ (spj ws).cps.toList := by
  unfold spj
  rw [join_list, sp_list]
  refine joinL_no (by decide) fun w hw => ?_
  obtain ⟨z, hz, rfl⟩ := List.mem_map.mp hw
  exact (h z hz).no
end K9

set_option Elab.async false
set_option linter.all false
set_option maxRecDepth 100000
set_option maxHeartbeats 4000000
namespace K9
open PySem PySem.Spec PyProof.Rows L2
abbrev sExprText : Stmt := top 32
theorem scExprText : FnScope ["expr", "part"] ["expr"] (defScope sExprText) := ⟨rfl, rfl, rfl, by decide +kernel, rfl, by decide +kernel, by decide +kernel⟩
/-! ### an expression's text -/
def rStrB : List V → Hp → VK → Prop := fun xs H Q => (∃ a, xs = [.str a] ∧ Q (.str a) H) ∨ ∃ i : Int, xs = [.int i] ∧ i.natAbs.log2 < 1920 ∧ Q (.str (toString i)) H
theorem call_strB {X : Cx} : CallR X (.type "str") rStrB := by
  intro pins s σ H xs us Q I r h
  rcases h with h | h
  · exact SkE.call_str_str pins s σ H xs us Q I r h
  · exact call_str_int pins s σ H xs us Q I r h
/-- the parts' texts -/
def txV : V → PySem.Str
  | .str z => z
  | .int i => toString i
  | _ => ""
theorem Ex.tx (e : Ex) : e.vs.map txV = e.words := by cases e <;> rfl
def Sm (v : V) : Prop := (∃ y : PySem.Str, v = .str y ∧ y.length ≤ 8) ∨ ∃ n : Nat, v = .int (n : Int) ∧ n < 4096
theorem Nm.sm {x : PySem.Str} (h : Nm x) : Sm (.str x) := .inl ⟨x, rfl, h.len⟩
theorem Ex.sm {v : Nat} (e : Ex) (hn : ∀ y ∈ e.names, Nm y) (ok : e.ok v) (hv : v ≤ 12) : ∀ x ∈ e.vs, Sm x := by
  have w := (nm_word e).sm
  have t : 2 ^ v ≤ 4096 := Nat.pow_le_pow_right (n := 2) (i := v) (j := 12) (by decide) hv
  intro x hx
  rcases List.mem_cons.mp hx with rfl | hx
  · exact w
  cases e with
  | num n =>
    have o : n < 2 ^ v := ok
    rw [List.mem_singleton.mp hx]; exact .inr ⟨n, rfl, by omega⟩
  | copy y => rw [List.mem_singleton.mp hx]; exact (hn y (by simp [Ex.names])).sm
  | two o y z =>
    simp only [Ex.parts, List.mem_cons, List.not_mem_nil, or_false] at hx
    rcases hx with rfl | rfl
    · exact (hn y (by simp [Ex.names])).sm
    · exact (hn z (by simp [Ex.names])).sm
  | up y k =>
    have o : k ≤ 11 := ok
    simp only [Ex.parts, List.mem_cons, List.not_mem_nil, or_false] at hx
    rcases hx with rfl | rfl
    · exact (hn y (by simp [Ex.names])).sm
    · exact .inr ⟨k, rfl, by omega⟩
  | down y k =>
    have o : k ≤ 11 := ok
    simp only [Ex.parts, List.mem_cons, List.not_mem_nil, or_false] at hx
    rcases hx with rfl | rfl
    · exact (hn y (by simp [Ex.names])).sm
    · exact .inr ⟨k, rfl, by omega⟩
  | pick c y z =>
    simp only [Ex.parts, List.mem_cons, List.not_mem_nil, or_false] at hx
    rcases hx with rfl | rfl | rfl
    · exact (hn c (by simp [Ex.names])).sm
    · exact (hn y (by simp [Ex.names])).sm
    · exact (hn z (by simp [Ex.names])).sm
theorem sm_log {n : Nat} (h : n < 4096) : (n : Int).natAbs.log2 < 1920 := by
  rw [Int.natAbs_natCast]
  by_cases h0 : n = 0
  · rw [h0]; decide
  · exact (Nat.log2_lt h0).mpr (Nat.lt_of_lt_of_le (show n < 2 ^ 12 by omega) (Nat.pow_le_pow_right (by decide) (by decide)))
theorem Sm.tx {v : V} (h : Sm v) : (txV v).length ≤ 8 := by
  rcases h with ⟨y, rfl, h⟩ | ⟨n, rfl, h⟩
  · exact h
  · exact (dec_num h).2
theorem Sm.str {v : V} (h : Sm v) {H : Hp} {Q : VK} (q : Q (.str (txV v)) H) : rStrB [v] H Q := by
  rcases h with ⟨y, rfl, h⟩ | ⟨n, rfl, h⟩
  · exact .inl ⟨y, rfl, q⟩
  · exact .inr ⟨n, rfl, sm_log h, q⟩
theorem sum_le8 : ∀ {l : List V}, (∀ x ∈ l, Sm x) → ((l.map txV).map (·.length)).sum ≤ 8 * l.length
  | [], _ => Nat.le_refl _
  | x :: r, h => by
    have := sum_le8 (l := r) fun y hy => h y (List.mem_cons_of_mem _ hy)
    have := (h x List.mem_cons_self).tx
    simp only [List.map_cons, List.sum_cons, List.length_cons]
    omega
def spExText (K : PySem.W.Frag) : Sp := fun vs H Q _ => ∃ (p : Addr) (e : Ex) (v : Nat), vs = [.ref p] ∧ H p = some (.tup e.vs) ∧ (∀ y ∈ e.names, Nm y) ∧ e.ok v ∧ v ≤ 12 ∧ ∀ H', Kept None H H' → Q (.str (spj e.words)) H'
section
variable {P : Program} {w : World} {K : PySem.W.Frag} {mg : PySem.Str → Option Value} {base : Heap} {f : Addr} {fd : FuncData}
theorem ok_extext (F : FnP K "expr_text" sExprText f fd) (m_str : mg "str" = none) : FnOk P w K mg base CX0 1 f fd ["expr"] (spExText K) := by
  refine F.ok (k := 0) scExprText (fun vs H Q E h => ?_) (fun cdv A outer s H vs Q E hr h => ?_)
  · obtain ⟨p, e, v, rfl, _⟩ := h
    rfl
  · obtain ⟨p, e, v, rfl, hp, hn, ok, hv, q⟩ := h
    refine ⟨_, PSs.nox (pss_one (ps_ret (pe_join pe_str (pe_lc (own := [("part", 1)]) (g := gName 1) (tt := tYes) rfl scExprText.nd (pi_tup (pv 0)) (blkOk_by (own := [("part", 1)]) (N := ["expr", "part"]) (sc := defScope sExprText) (by decide +kernel)) (by exact (fun _ _ _ _ _ => (pg_name (i := 1) scExprText.nd rfl (Or.inl rfl)))) (by exact (fun _ _ _ _ _ => pts_nil)) (by exact (fun _ _ _ _ _ => (pe_callTy call_strB (by rfl) m_str (by decide +kernel) (pa_cons (pv 1) pa_nil)))))))), ?_⟩
    have szl := sizeLine_eq
    have sm := e.sm hn ok hv
    have few : e.vs.length ≤ 4 := by cases e <;> simp [Ex.vs, Ex.parts]
    refine ⟨⟨_, rfl⟩, .ref p, rfl, p, rfl, ⟨_, SqT.of hp⟩, fun D hD => ?_⟩
    refine lc_tup (K := K) (a := p) (xs := e.vs) (fun i H' => Kept None H H' ∧ H' D = some (.lst (((e.vs.take i).map txV).map V.str))) ⟨Kept.refl.new hD, upd_same⟩ (fun i H' _ h => SqT.of (h.1.tup hp fun z => z)) (fun i x H' hx h => ?_) (fun H' h => ?_)
    · obtain ⟨k1, k2⟩ := h
      have sx := sm x (List.mem_of_getElem? hx)
      refine ⟨rfl, ?_⟩
      unfold tYes
      dsimp only
      rw [if_pos rfl]
      refine ⟨x, rfl, ?_⟩
      unfold tNil
      refine sx.str ⟨_, k2, ?_, fun b o e n => ?_, ?_⟩
      · rw [List.length_map, List.length_map, List.length_take]; omega
      · rw [upd_ne (ne_of_none e hD)]
        exact k1 b o e n
      · rw [upd_same, List.take_add_one, hx, List.map_append, List.map_append]
        rfl
    · obtain ⟨k1, k2⟩ := h
      rw [List.take_length, Ex.tx] at k2
      have s8 := sum_le8 sm
      rw [Ex.tx] at s8
      refine ⟨" ", D, e.words, rfl, rfl, .inl (SqL.of k2), ?_, q H' k1⟩
      rw [← Ex.tx, List.length_map, show (" " : PySem.Str).length = 1 from by decide +kernel, Ex.tx]
      omega
end
end K9

set_option Elab.async false
set_option linter.all false
set_option maxRecDepth 100000
set_option maxHeartbeats 4000000
namespace K9
open PySem PySem.Spec PyProof.Rows L2 TL
abbrev sShowRows : Stmt := top 34
theorem scShowRows : FnScope ["rows", "lines", "row"] ["rows", "lines"] (defScope sShowRows) := ⟨rfl, rfl, rfl, by decide +kernel, rfl, by decide +kernel, by decide +kernel⟩
abbrev sShowWithin : Stmt := top 35
theorem scShowWithin : FnScope ["row", "lines"] ["row", "lines"] (defScope sShowWithin) := ⟨rfl, rfl, rfl, by decide +kernel, rfl, by decide +kernel, by decide +kernel⟩
/-! ### rows shown -/
theorem str_eq {x y : PySem.Str} (h : x.cps.toList = y.cps.toList) : x = y := by rw [← mkS_of x, h, mkS_of]
theorem spj_cons (a b : PySem.Str) (r : List PySem.Str) : (spj (a :: b :: r)).cps.toList = a.cps.toList ++ 32 :: (spj (b :: r)).cps.toList := by
  unfold spj
  rw [join_list, join_list, sp_list]
  rfl
theorem spj_one (a : PySem.Str) : spj [a] = a := str_eq (by unfold spj; rw [join_list]; rfl)
theorem joinL_len (S : List Nat) : ∀ ws : List (List Nat), (joinL S ws).length ≤ (ws.map (·.length)).sum + ws.length * S.length
  | [] => Nat.zero_le _
  | [w] => by
    show w.length ≤ _
    simp only [List.map_cons, List.map_nil, List.sum_cons, List.sum_nil, List.length_singleton]
    omega
  | w :: x :: r => by
    have := joinL_len S (x :: r)
    show (w ++ (S ++ joinL S (x :: r))).length ≤ _
    rw [List.length_append, List.length_append, List.map_cons, List.sum_cons, List.length_cons, Nat.add_mul, Nat.one_mul]
    omega
theorem spj_len {ws : List PySem.Str} (h : ∀ w ∈ ws, w.length ≤ 8) (few : ws.length ≤ 6) : (spj ws).length ≤ 60 := by
  have q := joinL_len [32] (ws.map fun z => z.cps.toList)
  have s : ∀ {ws : List PySem.Str}, (∀ w ∈ ws, w.length ≤ 8) → ((ws.map fun z => z.cps.toList).map (·.length)).sum ≤ 8 * ws.length := fun {ws} h => by
    induction ws with
    | nil => exact Nat.le_refl _
    | cons a r ih =>
      have := ih fun y hy => h y (List.mem_cons_of_mem _ hy)
      have := h a List.mem_cons_self
      rw [len_list] at this
      simp only [List.map_cons, List.sum_cons, List.length_cons]
      omega
  have := s h
  rw [List.length_map, List.length_singleton] at q
  rw [len_list]
  unfold spj
  rw [join_list, sp_list]
  omega
/-- the words of a good expression -/
theorem Ex.word_len {v : Nat} (e : Ex) (hn : ∀ y ∈ e.names, Nm y) (ok : e.ok v) (hv : v ≤ 12) : (∀ w ∈ e.words, w.length ≤ 8) ∧ e.words.length ≤ 4 := by
  have s := e.sm hn ok hv
  refine ⟨fun w hw => ?_, by cases e <;> simp [Ex.words]⟩
  rw [← Ex.tx] at hw
  obtain ⟨x, hx, rfl⟩ := List.mem_map.mp hw
  exact (s x hx).tx
theorem head_set (x : PySem.Str) (e : Ex) : (((PySem.Str.empty ++ ("set " : PySem.Str)) ++ x) ++ (" " : PySem.Str)) ++ spj e.words = spj (("set" : PySem.Str) :: x :: e.words) := by
  obtain ⟨ws, hw⟩ := Ex.words_eq e
  refine str_eq ?_
  rw [hw, spj_cons, spj_cons]
  show tl _ = _
  rw [tl_append, tl_append, tl_append, tl_append]
  show (((tl PySem.Str.empty ++ tl ("set " : PySem.Str)) ++ tl x) ++ tl (" " : PySem.Str)) ++ _ = _
  rw [show tl (" " : PySem.Str) = [32] from sp_list, show tl ("set " : PySem.Str) = ("set" : PySem.Str).cps.toList ++ [32] from by decide +kernel, show tl PySem.Str.empty = [] from rfl]
  simp
theorem head_two (a b : PySem.Str) : ((PySem.Str.empty ++ a) ++ (" " : PySem.Str)) ++ b = spj [a, b] := by
  refine str_eq ?_
  rw [spj_cons, spj_one]
  show tl _ = _
  rw [tl_append, tl_append, tl_append, show tl (" " : PySem.Str) = [32] from sp_list, show tl PySem.Str.empty = [] from rfl]
  simp
def spShowR (n : Nat) : Sp := fun vs H Q _ => ∃ (R L : Addr) (rs : List V) (t : Tr) (acc : List PySem.Str) (v d r : Nat), vs = [.ref R, .ref L] ∧ d + n = 8 ∧ 1 ≤ n ∧ H R = some (.tup rs) ∧ Its H rs t ∧ t.fine v d r ∧ v ≤ 12 ∧ H L = some (.lst (acc.map V.str)) ∧ acc.length + t.lines.length ≤ 10000 ∧
  ∀ H', Kept (fun b => b = L) H H' → H' L = some (.lst ((acc ++ t.lines.map spj).map V.str)) → Q .non H'
def spWithin (n : Nat) : Sp := fun vs H Q _ => ∃ (p L : Addr) (t : Tr) (acc : List PySem.Str) (v d r : Nat), vs = [.ref p, .ref L] ∧ d + n = 7 ∧ 1 ≤ n ∧ Its H [.ref p] t ∧ t.fine v d r ∧ v ≤ 12 ∧ H L = some (.lst (acc.map V.str)) ∧ acc.length + t.lines.length ≤ 10001 ∧
  ∀ H', Kept (fun b => b = L) H H' → H' L = some (.lst ((acc ++ t.lines.tail.map spj).map V.str)) → Q .non H'
section
variable {P : Program} {w : World} {K : PySem.W.Frag} {mg : PySem.Str → Option Value} {base : Heap} {f fE fW fR : Addr} {fd fdE fdW fdR : FuncData} {n : Nat}
theorem ok_within (F : FnP K "_show_within" sShowWithin f fd) (GR : FnOk P w K mg base CX0 (2 + 2 * n) fR fdR ["rows", "lines"] (spShowR n)) (bR : Binds K fdR ["rows", "lines"] []) (kR : PySem.W.keepIn K (.ref fR) = true) (gR : mg "_show_rows" = some (.ref fR)) : FnOk P w K mg base CX0 (2 + 2 * n + 1) f fd ["row", "lines"] (spWithin n) := by
  refine F.ok (k := 2 + 2 * n) scShowWithin (fun vs H Q E h => ?_) (fun cdv A outer s H vs Q E hr h => ?_)
  · obtain ⟨p, L, t, acc, v, d, r, rfl, _⟩ := h
    rfl
  · obtain ⟨p, L, t, acc, v, d, r, rfl, hd, n1, ip, ft, hv, hL, few, q⟩ := h
    refine ⟨_, PSs.nox (pss_one (ps_if (pt_cmpR op_eq (pe_ix ix_tup (pv 0) pe_int (fun _ _ => rfl)) pe_str (nomark _))
      (pss_cons (ps_expr (pe_call GR hr (by rfl) gR kR bR .nil pass0 (pa_cons (pe_ix ix_tup (pv 0) pe_int (fun _ _ => rfl)) (pa_cons (pv 1) pa_nil))))
      (pss_cons (ps_expr (pe_bm PySem.F.plainAttrs_list PySem.F.slot_list_append PySem.F.type_list_append mt_append (pv 1) (pa_cons pe_str pa_nil)))
      (pss_cons (ps_expr (pe_call GR hr (by rfl) gR kR bR .nil pass0 (pa_cons (pe_ix ix_tup (pv 0) pe_int (fun _ _ => rfl)) (pa_cons (pv 1) pa_nil))))
      (pss_one (ps_expr (pe_bm PySem.F.plainAttrs_list PySem.F.slot_list_append PySem.F.type_list_append mt_append (pv 1) (pa_cons pe_str pa_nil)))))))
      (pss_one (ps_if (pt_cmpR op_eq (pe_ix ix_tup (pv 0) pe_int (fun _ _ => rfl)) pe_str (nomark _))
        (pss_cons (ps_expr (pe_call GR hr (by rfl) gR kR bR .nil pass0 (pa_cons (pe_ix ix_tup (pv 0) pe_int (fun _ _ => rfl)) (pa_cons (pv 1) pa_nil))))
        (pss_one (ps_expr (pe_bm PySem.F.plainAttrs_list PySem.F.slot_list_append PySem.F.type_list_append mt_append (pv 1) (pa_cons pe_str pa_nil)))))
        pss_nil)))), ?_⟩
    have szl := sizeLine_eq
    have no : ∀ {y z : PySem.Str}, y ≠ z → ¬ decide (V.str y = V.str z) = true := fun h e => h (V.str.inj (of_decide_eq_true e))
    have kL0 : Kept (fun b => b = L) H H := Kept.refl
    have ntL : ∀ {Hx : Hp} {zs : List V}, Hx L = some (.lst zs) → ∀ q ys, Hx q = some (.tup ys) → ¬ q = L := fun e q ys e2 z => by
      rw [z, e] at e2; cases e2
    cases ip with
    | set h he i0 =>
      cases i0
      refine ⟨.ref p, rfl, p, _, 0, .str "set", rfl, rfl, SqT.of h, atI_nat (j := 0) rfl, rfl, _, rfl, ite2 (fun z => absurd z (no (by decide))) (fun _ => ?_)⟩
      refine ⟨.ref p, rfl, p, _, 0, .str "set", rfl, rfl, SqT.of h, atI_nat (j := 0) rfl, rfl, _, rfl, ite2 (fun z => absurd z (no (by decide))) (fun _ => ?_)⟩
      exact q H Kept.refl (by rw [hL]; simp [Tr.lines])
    | tell h i0 =>
      cases i0
      refine ⟨.ref p, rfl, p, _, 0, .str "tell", rfl, rfl, SqT.of h, atI_nat (j := 0) rfl, rfl, _, rfl, ite2 (fun z => absurd z (no (by decide))) (fun _ => ?_)⟩
      refine ⟨.ref p, rfl, p, _, 0, .str "tell", rfl, rfl, SqT.of h, atI_nat (j := 0) rfl, rfl, _, rfl, ite2 (fun z => absurd z (no (by decide))) (fun _ => ?_)⟩
      exact q H Kept.refl (by rw [hL]; simp [Tr.lines])
    | @ite _ q1 q2 x as bs _ a b _ h h1 h2 ra rb i0 =>
      cases i0
      simp only [Tr.lines, List.length_cons, List.length_append, List.length_nil] at few
      refine ⟨.ref p, rfl, p, _, 0, .str "if", rfl, rfl, SqT.of h, atI_nat (j := 0) rfl, rfl, _, rfl, ite2 (fun _ => ?_) (fun z => absurd (decide_eq_true rfl) z)⟩
      refine ⟨.ref p, rfl, p, _, 2, .ref q1, rfl, rfl, SqT.of h, atI_nat (j := 2) rfl, .ref L, rfl, q1, L, as, a, acc, v, d + 1, r, rfl, by omega, n1, h1, ra, ft.2.2.1, hv, hL, by omega, fun H1 k1 e1 => ?_⟩
      have k2 : Kept (fun b => b = L) H (upd H1 L (.lst ((acc ++ a.lines.map spj).map V.str ++ [.str "else"]))) := k1.upd rfl
      refine ⟨.ref L, rfl, .inl ⟨rfl, _, SqL.of e1⟩, L, _, _, rfl, rfl, e1, by simp only [List.length_map, List.length_append]; omega, ?_⟩
      have e2 : upd H1 L (.lst ((acc ++ a.lines.map spj).map V.str ++ [.str "else"])) L = some (.lst ((acc ++ a.lines.map spj ++ [("else" : PySem.Str)]).map V.str)) := by rw [upd_same]; simp
      generalize upd H1 L (.lst ((acc ++ a.lines.map spj).map V.str ++ [.str "else"])) = H2 at k2 e2 ⊢
      refine ⟨.ref p, rfl, p, _, 3, .ref q2, rfl, rfl, SqT.of (k2.tup h (ntL hL _ _ h)), atI_nat (j := 3) rfl, .ref L, rfl, q2, L, bs, b, _, v, d + 1, r, rfl, by omega, n1, k2.tup h2 (ntL hL _ _ h2), rb.stay k2 (ntL hL), ft.2.2.2.1, hv, e2, by simp only [List.length_map, List.length_append, List.length_singleton]; omega, fun H3 k3 e3 => ?_⟩
      refine ⟨.ref L, rfl, .inl ⟨rfl, _, SqL.of e3⟩, L, _, _, rfl, rfl, e3, by simp only [List.length_map, List.length_append, List.length_singleton]; omega, ?_⟩
      refine q _ ((k2.trans k3).upd rfl) ?_
      rw [upd_same]
      simp [Tr.lines, spj_one]
    | @rnd _ q1 c as _ a _ h h1 ra i0 =>
      cases i0
      simp only [Tr.lines, List.length_cons, List.length_append, List.length_nil] at few
      refine ⟨.ref p, rfl, p, _, 0, .str "round", rfl, rfl, SqT.of h, atI_nat (j := 0) rfl, rfl, _, rfl, ite2 (fun z => absurd z (no (by decide))) (fun _ => ?_)⟩
      refine ⟨.ref p, rfl, p, _, 0, .str "round", rfl, rfl, SqT.of h, atI_nat (j := 0) rfl, rfl, _, rfl, ite2 (fun _ => ?_) (fun z => absurd (decide_eq_true rfl) z)⟩
      refine ⟨.ref p, rfl, p, _, 2, .ref q1, rfl, rfl, SqT.of h, atI_nat (j := 2) rfl, .ref L, rfl, q1, L, as, a, acc, v, d + 1, r + 1, rfl, by omega, n1, h1, ra, ft.2.2.2.1, hv, hL, by omega, fun H1 k1 e1 => ?_⟩
      refine ⟨.ref L, rfl, .inl ⟨rfl, _, SqL.of e1⟩, L, _, _, rfl, rfl, e1, by simp only [List.length_map, List.length_append]; omega, ?_⟩
      refine q _ (k1.upd rfl) ?_
      rw [upd_same]
      simp [Tr.lines, spj_one]
end
end K9

set_option Elab.async false
set_option linter.all false
set_option maxRecDepth 100000
set_option maxHeartbeats 4000000
namespace K9
open PySem PySem.Spec PyProof.Rows L2 TL
theorem app_le {a b : PySem.Str} {m n k : Nat} (h1 : a.length ≤ m) (h2 : b.length ≤ n) (h : m + n ≤ k) : (a ++ b).length ≤ k := by
  rw [PySem.Str.length_append]; omega
theorem szBig {a : PySem.Str} (h : a.length ≤ 1000) : a.length ≤ sizeLine := by rw [sizeLine_eq]; omega
section
variable {P : Program} {w : World} {K : PySem.W.Frag} {mg : PySem.Str → Option Value} {base : Heap} {f fE fW fR : Addr} {fd fdE fdW fdR : FuncData} {n : Nat}
theorem ok_show0 (F : FnP K "_show_rows" sShowRows f fd) : FnOk P w K mg base CX0 2 f fd ["rows", "lines"] (spShowR 0) := by
  refine F.ok (k := 1) scShowRows (fun vs H Q E h => ?_) (fun cdv A outer s H vs Q E hr h => ?_)
  · obtain ⟨R, L, rs, t, acc, v, d, r, rfl, _⟩ := h
    rfl
  · obtain ⟨R, L, rs, t, acc, v, d, r, rfl, hd, n1, _⟩ := h
    omega
theorem ok_show1 (F : FnP K "_show_rows" sShowRows f fd) (GE : FnOk P w K mg base CX0 1 fE fdE ["expr"] (spExText K)) (bE : Binds K fdE ["expr"] []) (kE : PySem.W.keepIn K (.ref fE) = true) (gE : mg "expr_text" = some (.ref fE))
    (GW : FnOk P w K mg base CX0 (2 + 2 * n + 1) fW fdW ["row", "lines"] (spWithin n)) (bW : Binds K fdW ["row", "lines"] []) (kW : PySem.W.keepIn K (.ref fW) = true) (gW : mg "_show_within" = some (.ref fW)) : FnOk P w K mg base CX0 (2 + 2 * n + 2) f fd ["rows", "lines"] (spShowR (n + 1)) := by
  refine F.ok (k := 2 + 2 * n + 1) scShowRows (fun vs H Q E h => ?_) (fun cdv A outer s H vs Q E hr h => ?_)
  · obtain ⟨R, L, rs, t, acc, v, d, r, rfl, _⟩ := h
    rfl
  · obtain ⟨R, L, rs, t, acc, v, d, r, rfl, hd, n1, hR, it, ft, hv, hL, few, q⟩ := h
    refine ⟨_, PSs.nox (pss_one (ps_for PassesOwn.never rfl (pi_tup (pv 0)) (pg_name (i := 2) scShowRows.nd rfl (Or.inl rfl))
      (pss_cons (ps_if (pt_cmpR op_eq (pe_ix ix_tup (pv 2) pe_int (fun _ _ => rfl)) pe_str (nomark _))
        (pss_one (ps_expr (pe_bm PySem.F.plainAttrs_list PySem.F.slot_list_append PySem.F.type_list_append mt_append (pv 1) (pa_cons (pe_joined (.cons pe_str (.cons (pe_fmt (pe_ix ix_tup (pv 2) pe_int (fun _ _ => rfl))) (.cons pe_str (.cons (pe_fmt (pe_call (GE.mono (by omega)) hr (by rfl) gE kE bE .nil pass0 (pa_cons (pe_ix ix_tup (pv 2) pe_int (fun _ _ => rfl)) pa_nil))) .nil))))) pa_nil))))
        (pss_one (ps_expr (pe_bm PySem.F.plainAttrs_list PySem.F.slot_list_append PySem.F.type_list_append mt_append (pv 1) (pa_cons (pe_joined (.cons (pe_fmt (pe_ix ix_tup (pv 2) pe_int (fun _ _ => rfl))) (.cons pe_str (.cons (pe_fmt (pe_ix ix_tup (pv 2) pe_int (fun _ _ => rfl))) .nil)))) pa_nil)))))
      (pss_one (ps_expr (pe_call GW hr (by rfl) gW kW bW .nil pass0 (pa_cons (pv 2) (pa_cons (pv 1) pa_nil)))))))), ?_⟩
    have szl := sizeLine_eq
    have no : ∀ {y z : PySem.Str}, y ≠ z → ¬ decide (V.str y = V.str z) = true := fun h e => h (V.str.inj (of_decide_eq_true e))
    have ntL : ∀ {Hx : Hp} {zs : List V}, Hx L = some (.lst zs) → ∀ q ys, Hx q = some (.tup ys) → ¬ q = L := fun e q ys e2 z => by
      rw [z, e] at e2; cases e2
    refine ⟨.ref R, rfl, R, rfl, ⟨_, SqT.of hR⟩, ?_⟩
    refine for_tup (K := K) (a := R) (xs := rs) (fun i σ H' => ∃ (u w : Tr) (x2 : Option V), σ = [some (.ref R), some (.ref L), x2] ∧ t = u.app w ∧ Kept (fun b => b = L) H H' ∧ Its H' (rs.drop i) w ∧ w.fine v d r ∧ H' L = some (.lst ((acc ++ u.lines.map spj).map V.str)))
      ⟨.nil, t, none, rfl, rfl, Kept.refl, it, ft, by rw [hL]; simp [Tr.lines]⟩ (fun i σ H' _ h => ?_) (fun i x σ H' hx h => ?_) (fun σ H' h => ?_)
    · obtain ⟨_, _, _, _, _, k1, _⟩ := h
      exact SqT.of (k1.tup hR (ntL hL _ _ hR))
    · obtain ⟨u, w, x2, rfl, htu, k1, iw, fw, eL⟩ := h
      have hi : i < rs.length := (List.getElem?_eq_some_iff.mp hx).1
      have hdr : rs.drop i = x :: rs.drop (i + 1) := by
        rw [List.drop_eq_getElem_cons hi, (List.getElem?_eq_some_iff.mp hx).2]
      rw [hdr] at iw
      have hlen : u.lines.length + w.lines.length = t.lines.length := by rw [htu, Tr.app_lines, List.length_append]
      -- what the row's own lines leave
      have add : ∀ (one w' : Tr) (p : Addr) (hd0 : List PySem.Str) (tl0 : List (List PySem.Str)) (s0 : PySem.Str) (HE : Hp), x = .ref p → w = one.app w' → Its H' [.ref p] one → one.fine v d r → one.lines = hd0 :: tl0 → s0 = spj hd0 → Its H' (rs.drop (i + 1)) w' → w'.fine v d r → d ≤ 6 → Kept None H' HE →
          HE L = some (.lst ((acc ++ u.lines.map spj).map V.str)) ∧ ((acc ++ u.lines.map spj).map V.str).length < sizeLine ∧
          ∀ H2, H2 = upd HE L (.lst ((acc ++ u.lines.map spj).map V.str ++ [.str s0])) → spWithin n [x, .ref L] H2 (fun _ H3 => ∃ (u w : Tr) (x2 : Option V), ([some (.ref R), some (.ref L), some x] : L2.St) = [some (.ref R), some (.ref L), x2] ∧ t = u.app w ∧ Kept (fun b => b = L) H H3 ∧ Its H3 (rs.drop (i + 1)) w ∧ w.fine v d r ∧ H3 L = some (.lst ((acc ++ u.lines.map spj).map V.str))) E := by
        intro one w' p hd0 tl0 s0 HE ex ew io fo el es iw' fw' d6 kE
        have eE := kE.lst eL fun z => z
        have nn : ∀ (p : Addr) (ys : List V), H' p = some (.tup ys) → ¬ None p := fun p ys _ z => z
        have io := io.stay kE nn
        have iw' := iw'.stay kE nn
        have e1 : upd HE L (.lst ((acc ++ u.lines.map spj).map V.str ++ [.str s0])) L = some (.lst ((acc ++ u.lines.map spj ++ [s0]).map V.str)) := by rw [upd_same]; simp
        have k2 : Kept (fun b => b = L) HE (upd HE L (.lst ((acc ++ u.lines.map spj).map V.str ++ [.str s0]))) := Kept.refl.upd rfl
        have hlw : w.lines.length = 1 + tl0.length + w'.lines.length := by
          rw [ew, Tr.app_lines, List.length_append, el, List.length_cons]; omega
        have hol : one.lines.length = 1 + tl0.length := by rw [el, List.length_cons]; omega
        refine ⟨eE, by simp only [List.length_map, List.length_append]; omega, fun H2 hH2 => ?_⟩
        subst hH2
        refine ⟨p, L, one, acc ++ u.lines.map spj ++ [s0], v, d, r, by rw [ex], by omega, by omega, io.stay k2 (ntL eE), fo, hv, e1, by simp only [List.length_append, List.length_map, List.length_singleton]; omega, fun H3 k3 e3 => ?_⟩
        refine ⟨u.app one, w', some x, rfl, by rw [htu, ew, Tr.app_assoc], ((k1.trans (kE.weak fun _ z => z.elim)).trans k2).trans k3, (iw'.stay k2 (ntL eE)).stay k3 (ntL e1), fw', ?_⟩
        rw [e3, es, Tr.app_lines, el]
        simp
      cases iw with
      | @set p qq x e _ t' h he i0 =>
        obtain ⟨wl, wn⟩ := e.word_len fw.2.1 fw.2.2.1 hv
        have sl := spj_len wl (by omega)
        have xl := fw.1.len
        refine ⟨.ref p, rfl, p, _, 0, .str "set", rfl, rfl, SqT.of h, atI_nat (j := 0) rfl, rfl, _, rfl, ite2 (fun _ => ?_) (fun z => absurd (decide_eq_true rfl) z)⟩
        have b1 : (PySem.Str.empty ++ ("set " : PySem.Str)).length ≤ 10 := by decide +kernel
        have b2 : ((PySem.Str.empty ++ ("set " : PySem.Str)) ++ x).length ≤ 20 := app_le b1 xl (by decide)
        have b3 : (((PySem.Str.empty ++ ("set " : PySem.Str)) ++ x) ++ (" " : PySem.Str)).length ≤ 30 := app_le b2 (show (" " : PySem.Str).length ≤ 1 by decide +kernel) (by decide)
        refine ⟨.ref L, rfl, .inl ⟨rfl, _, SqL.of eL⟩, "set ", rfl, szBig (Nat.le_trans b1 (by decide)), ?_⟩
        refine ⟨.ref p, rfl, p, _, 1, .str x, rfl, rfl, SqT.of h, atI_nat (j := 1) rfl, .inl ⟨x, rfl, szBig (Nat.le_trans xl (by decide)), x, rfl, szBig (Nat.le_trans b2 (by decide)), " ", rfl, szBig (Nat.le_trans b3 (by decide)), ?_⟩⟩
        refine ⟨.ref p, rfl, p, _, 2, .ref qq, rfl, rfl, SqT.of h, atI_nat (j := 2) rfl, qq, e, v, rfl, he, fw.2.1, fw.2.2.1, hv, fun H2 k2 => .inl ⟨spj e.words, rfl, szBig (Nat.le_trans sl (by decide)), spj e.words, rfl, szBig (Nat.le_trans (app_le b3 sl (by decide)) (show 90 ≤ 1000 by decide)), ?_⟩⟩
        obtain ⟨a1, a2, a3⟩ := add (.set x e .nil) t' p _ [] _ H2 rfl rfl (.set h he .nil) ⟨fw.1, fw.2.1, fw.2.2.1, fw.2.2.2.1, trivial⟩ rfl (head_set x e) i0 fw.2.2.2.2 fw.2.2.2.1 k2
        exact ⟨L, _, _, rfl, rfl, a1, a2, .ref p, rfl, .ref L, rfl, a3 _ rfl⟩
      | @tell p x _ t' h i0 =>
        have xl := fw.1.len
        obtain ⟨a1, a2, a3⟩ := add (.tell x .nil) t' p _ [] _ H' rfl rfl (.tell h .nil) ⟨fw.1, fw.2.1, trivial⟩ rfl (head_two "tell" x) i0 fw.2.2 fw.2.1 Kept.refl
        have b1 : (PySem.Str.empty ++ ("tell" : PySem.Str)).length ≤ 10 := by decide +kernel
        have b2 : ((PySem.Str.empty ++ ("tell" : PySem.Str)) ++ (" " : PySem.Str)).length ≤ 20 := app_le b1 (show (" " : PySem.Str).length ≤ 1 by decide +kernel) (by decide)
        refine ⟨.ref p, rfl, p, _, 0, .str "tell", rfl, rfl, SqT.of h, atI_nat (j := 0) rfl, rfl, _, rfl, ite2 (fun z => absurd z (no (by decide))) (fun _ => ?_)⟩
        refine ⟨.ref L, rfl, .inl ⟨rfl, _, SqL.of eL⟩, .ref p, rfl, p, _, 0, .str "tell", rfl, rfl, SqT.of h, atI_nat (j := 0) rfl, .inl ⟨"tell", rfl, szBig (by decide +kernel), "tell", rfl, szBig (Nat.le_trans b1 (by decide)), " ", rfl, szBig (Nat.le_trans b2 (by decide)), ?_⟩⟩
        refine ⟨.ref p, rfl, p, _, 1, .str x, rfl, rfl, SqT.of h, atI_nat (j := 1) rfl, .inl ⟨x, rfl, szBig (Nat.le_trans xl (by decide)), x, rfl, szBig (Nat.le_trans (app_le b2 xl (by decide)) (show 30 ≤ 1000 by decide)), L, _, _, rfl, rfl, a1, a2, ?_⟩⟩
        exact ⟨.ref p, rfl, .ref L, rfl, a3 _ rfl⟩
      | @ite p q1 q2 x as bs _ a b t' h h1 h2 ra rb i0 =>
        have xl := fw.1.len
        obtain ⟨a1, a2, a3⟩ := add (.ite x a b .nil) t' p _ _ _ H' rfl rfl (.ite h h1 h2 ra rb .nil) ⟨fw.1, fw.2.1, fw.2.2.1, fw.2.2.2.1, trivial⟩ rfl (head_two "if" x) i0 fw.2.2.2.2 fw.2.1 Kept.refl
        have b1 : (PySem.Str.empty ++ ("if" : PySem.Str)).length ≤ 10 := by decide +kernel
        have b2 : ((PySem.Str.empty ++ ("if" : PySem.Str)) ++ (" " : PySem.Str)).length ≤ 20 := app_le b1 (show (" " : PySem.Str).length ≤ 1 by decide +kernel) (by decide)
        refine ⟨.ref p, rfl, p, _, 0, .str "if", rfl, rfl, SqT.of h, atI_nat (j := 0) rfl, rfl, _, rfl, ite2 (fun z => absurd z (no (by decide))) (fun _ => ?_)⟩
        refine ⟨.ref L, rfl, .inl ⟨rfl, _, SqL.of eL⟩, .ref p, rfl, p, _, 0, .str "if", rfl, rfl, SqT.of h, atI_nat (j := 0) rfl, .inl ⟨"if", rfl, szBig (by decide +kernel), "if", rfl, szBig (Nat.le_trans b1 (by decide)), " ", rfl, szBig (Nat.le_trans b2 (by decide)), ?_⟩⟩
        refine ⟨.ref p, rfl, p, _, 1, .str x, rfl, rfl, SqT.of h, atI_nat (j := 1) rfl, .inl ⟨x, rfl, szBig (Nat.le_trans xl (by decide)), x, rfl, szBig (Nat.le_trans (app_le b2 xl (by decide)) (show 30 ≤ 1000 by decide)), L, _, _, rfl, rfl, a1, a2, ?_⟩⟩
        exact ⟨.ref p, rfl, .ref L, rfl, a3 _ rfl⟩
      | @rnd p q1 c as _ a t' h h1 ra i0 =>
        have hc : c < 4096 := by have := fw.1; omega
        have xl := (dec_num hc).2
        obtain ⟨a1, a2, a3⟩ := add (.rnd c a .nil) t' p _ _ _ H' rfl rfl (.rnd h h1 ra .nil) ⟨fw.1, fw.2.1, fw.2.2.1, fw.2.2.2.1, trivial⟩ rfl (head_two "round" (dec c)) i0 fw.2.2.2.2 fw.2.2.1 Kept.refl
        have b1 : (PySem.Str.empty ++ ("round" : PySem.Str)).length ≤ 10 := by decide +kernel
        have b2 : ((PySem.Str.empty ++ ("round" : PySem.Str)) ++ (" " : PySem.Str)).length ≤ 20 := app_le b1 (show (" " : PySem.Str).length ≤ 1 by decide +kernel) (by decide)
        refine ⟨.ref p, rfl, p, _, 0, .str "round", rfl, rfl, SqT.of h, atI_nat (j := 0) rfl, rfl, _, rfl, ite2 (fun z => absurd z (no (by decide))) (fun _ => ?_)⟩
        refine ⟨.ref L, rfl, .inl ⟨rfl, _, SqL.of eL⟩, .ref p, rfl, p, _, 0, .str "round", rfl, rfl, SqT.of h, atI_nat (j := 0) rfl, .inl ⟨"round", rfl, szBig (by decide +kernel), "round", rfl, szBig (Nat.le_trans b1 (by decide)), " ", rfl, szBig (Nat.le_trans b2 (by decide)), ?_⟩⟩
        refine ⟨.ref p, rfl, p, _, 1, .int (c : Int), rfl, rfl, SqT.of h, atI_nat (j := 1) rfl, .inr ⟨(c : Int), rfl, sm_log hc, dec c, rfl, szBig (Nat.le_trans (app_le b2 xl (by decide)) (show 30 ≤ 1000 by decide)), L, _, _, rfl, rfl, a1, a2, ?_⟩⟩
        exact ⟨.ref p, rfl, .ref L, rfl, a3 _ rfl⟩
    · obtain ⟨u, w, x2, rfl, htu, k1, iw, fw, eL⟩ := h
      rw [List.drop_length] at iw
      cases iw
      rw [Tr.app_nil] at htu
      subst htu
      exact q H' k1 eL
end
end K9

set_option Elab.async false
set_option linter.all false
set_option maxRecDepth 100000
set_option maxHeartbeats 4000000
namespace K9
open PySem PySem.Spec PyProof.Rows L2 TL
abbrev sProgramText : Stmt := top 33
theorem scProgramText : FnScope ["program", "wide", "inputs", "rows", "lines"] ["program"] (defScope sProgramText) := ⟨rfl, rfl, rfl, by decide +kernel, rfl, by decide +kernel, by decide +kernel⟩
/-! ### a program's text -/
theorem ok_show_all {P : Program} {w : World} {K : PySem.W.Frag} {mg : PySem.Str → Option Value} {base : Heap} {fE fW fR : Addr} {fdE fdW fdR : FuncData}
    (FR : FnP K "_show_rows" sShowRows fR fdR) (FW : FnP K "_show_within" sShowWithin fW fdW) (GE : FnOk P w K mg base CX0 1 fE fdE ["expr"] (spExText K)) (bE : Binds K fdE ["expr"] []) (kE : PySem.W.keepIn K (.ref fE) = true) (gE : mg "expr_text" = some (.ref fE))
    (bR : Binds K fdR ["rows", "lines"] []) (kR : PySem.W.keepIn K (.ref fR) = true) (gR : mg "_show_rows" = some (.ref fR)) (bW : Binds K fdW ["row", "lines"] []) (kW : PySem.W.keepIn K (.ref fW) = true) (gW : mg "_show_within" = some (.ref fW)) : ∀ n, FnOk P w K mg base CX0 (2 + 2 * n) fR fdR ["rows", "lines"] (spShowR n)
  | 0 => ok_show0 FR
  | n + 1 => ok_show1 FR GE bE kE gE (ok_within FW (ok_show_all FR FW GE bE kE gE bR kR gR bW kW gW n) bR kR gR) bW kW gW
def textOf (g : Pg) : PySem.Str := nlj (g.lines.map spj)
theorem lines_le : ∀ t : Tr, t.lines.length ≤ 3 * t.all
  | .nil => Nat.le_refl _
  | .set _ _ t => by have := lines_le t; simp only [Tr.lines, Tr.all, List.length_cons]; omega
  | .tell _ t => by have := lines_le t; simp only [Tr.lines, Tr.all, List.length_cons]; omega
  | .ite _ a b t => by
    have := lines_le a; have := lines_le b; have := lines_le t
    simp only [Tr.lines, Tr.all, List.length_cons, List.length_append]; omega
  | .rnd _ a t => by
    have := lines_le a; have := lines_le t
    simp only [Tr.lines, Tr.all, List.length_cons, List.length_append]; omega
/-- every line's words, short and few -/
def Lw (ws : List PySem.Str) : Prop := ws ≠ [] ∧ (∀ w ∈ ws, Wt w ∧ w.length ≤ 8) ∧ ws.length ≤ 6
theorem nm_two {a b : PySem.Str} (h1 : Wt a) (h2 : Wt b) (l1 : a.length ≤ 8) (l2 : b.length ≤ 8) : Lw [a, b] := ⟨by simp, fun w hw => by
  simp only [List.mem_cons, List.not_mem_nil, or_false] at hw
  rcases hw with rfl | rfl
  · exact ⟨h1, l1⟩
  · exact ⟨h2, l2⟩, by simp⟩
theorem nm_one {a : PySem.Str} (h : Nm a) : Lw [a] := ⟨by simp, fun w hw => by
  rw [List.mem_singleton.mp hw]; exact ⟨h.wt, h.len⟩, by simp⟩
theorem nm_else : Nm "else" := by unfold Nm; decide +kernel
theorem nm_end : Nm "end" := by unfold Nm; decide +kernel
theorem nm_round : Nm "round" := by unfold Nm; decide +kernel
theorem nm_wide : Nm "wide" := by unfold Nm; decide +kernel
theorem Ex.words_wt {v : Nat} (e : Ex) (hn : ∀ y ∈ e.names, Nm y) (ok : e.ok v) (hv : v ≤ 12) : ∀ w ∈ e.words, Wt w := by
  intro w hw
  rcases ex_split e hn ok hv with ⟨ks, ws, e1, e2, e3, e4, e5, e6⟩ | ⟨ks, kd, n, lo, hi, ws, e1, e2, e3, e4, e5, e6, e7, e8, _⟩
  · exact (e4 w hw).wt
  · rw [e3] at hw
    rcases List.mem_cons.mp hw with rfl | hw
    · exact (nm_word e).wt
    rcases List.mem_append.mp hw with hw | hw
    · exact (e5 w (List.mem_cons_of_mem _ hw)).wt
    · rw [List.mem_singleton.mp hw]; exact dec_wt e8
theorem Tr.lw {v : Nat} (hv : v ≤ 12) : ∀ (t : Tr) (d r : Nat), t.fine v d r → ∀ l ∈ t.lines, Lw l
  | .nil, _, _, _, l, h => by cases h
  | .set x e t, d, r, f, l, h => by
    obtain ⟨f1, f2, f3, f4, f5⟩ := f
    rcases List.mem_cons.mp h with rfl | h
    · obtain ⟨w1, w2⟩ := e.word_len f2 f3 hv
      refine ⟨by simp, fun w hw => ?_, by simp only [List.length_cons]; omega⟩
      rcases List.mem_cons.mp hw with rfl | hw
      · exact ⟨nm_set.wt, nm_set.len⟩
      rcases List.mem_cons.mp hw with rfl | hw
      · exact ⟨f1.wt, f1.len⟩
      · exact ⟨e.words_wt f2 f3 hv w hw, w1 w hw⟩
    · exact Tr.lw hv t d r f5 l h
  | .tell x t, d, r, f, l, h => by
    obtain ⟨f1, f2, f3⟩ := f
    rcases List.mem_cons.mp h with rfl | h
    · exact nm_two nm_tell.wt f1.wt nm_tell.len f1.len
    · exact Tr.lw hv t d r f3 l h
  | .ite x a b t, d, r, f, l, h => by
    obtain ⟨f1, f2, f3, f4, f5⟩ := f
    rcases List.mem_cons.mp h with rfl | h
    · exact nm_two nm_if.wt f1.wt nm_if.len f1.len
    rcases List.mem_append.mp h with h | h
    · exact Tr.lw hv a _ _ f3 l h
    rcases List.mem_cons.mp h with rfl | h
    · exact nm_one nm_else
    rcases List.mem_append.mp h with h | h
    · exact Tr.lw hv b _ _ f4 l h
    rcases List.mem_cons.mp h with rfl | h
    · exact nm_one nm_end
    · exact Tr.lw hv t _ _ f5 l h
  | .rnd n a t, d, r, f, l, h => by
    obtain ⟨f1, f2, f3, f4, f5⟩ := f
    have hn : n < 4096 := by omega
    rcases List.mem_cons.mp h with rfl | h
    · exact nm_two nm_round.wt (dec_wt hn) nm_round.len (dec_num hn).2
    rcases List.mem_append.mp h with h | h
    · exact Tr.lw hv a _ _ f4 l h
    rcases List.mem_cons.mp h with rfl | h
    · exact nm_one nm_end
    · exact Tr.lw hv t _ _ f5 l h
theorem Pg.lw {g : Pg} (f : g.fine) : ∀ l ∈ g.lines, Lw l := by
  obtain ⟨v1, v2, x4, nm, few, ft⟩ := f
  intro l h
  have hn : g.v < 4096 := by omega
  rcases List.mem_cons.mp h with rfl | h
  · exact nm_two nm_wide.wt (dec_wt hn) nm_wide.len (dec_num hn).2
  rcases List.mem_cons.mp h with rfl | h
  · refine ⟨by simp, fun w hw => ?_, by simp only [List.length_cons]; omega⟩
    rcases List.mem_cons.mp hw with rfl | hw
    · exact ⟨nm_in.wt, nm_in.len⟩
    · exact ⟨(nm w hw).wt, (nm w hw).len⟩
  · exact Tr.lw v2 g.t 1 0 ft l h
theorem Pg.few {g : Pg} (f : g.fine) : g.lines.length ≤ 200 := by
  have := lines_le g.t
  have := f.2.2.2.2.1
  simp only [Pg.lines, List.length_cons]
  omega
/-- the text shows the lines -/
theorem linesOf_text {g : Pg} (f : g.fine) : linesOf (textOf g) = g.lines := by
  have lw := Pg.lw f
  unfold textOf
  rw [linesOf_nlj (by simp [Pg.lines]) (fun t ht => by
    obtain ⟨l, hl, rfl⟩ := List.mem_map.mp ht
    exact spj_no fun w hw => ((lw l hl).2.1 w hw).1)]
  have key : ∀ ls : List (List PySem.Str), (∀ l ∈ ls, Lw l) → (ls.map spj).flatMap shown = ls := fun ls => by
    induction ls with
    | nil => intro _; rfl
    | cons l r ih =>
      intro h
      have h1 := h l List.mem_cons_self
      rw [List.map_cons, List.flatMap_cons, shown_spj (fun w hw => (h1.2.1 w hw).1) h1.1, ih fun x hx => h x (List.mem_cons_of_mem _ hx)]
      rfl
  exact key _ lw
theorem text_len {ls : List (List PySem.Str)} (h : ∀ l ∈ ls, Lw l) : ((ls.map spj).map (·.length)).sum ≤ 60 * ls.length := by
  induction ls with
  | nil => exact Nat.le_refl _
  | cons l r ih =>
    have := ih fun x hx => h x (List.mem_cons_of_mem _ hx)
    have h1 := h l List.mem_cons_self
    have := spj_len (fun w hw => (h1.2.1 w hw).2) h1.2.2
    simp only [List.map_cons, List.sum_cons, List.length_cons]
    omega
theorem sum8 {ws : List PySem.Str} (h : ∀ w ∈ ws, w.length ≤ 8) : (ws.map (·.length)).sum ≤ 8 * ws.length := by
  induction ws with
  | nil => exact Nat.le_refl _
  | cons a r ih =>
    have := ih fun y hy => h y (List.mem_cons_of_mem _ hy)
    have := h a List.mem_cons_self
    simp only [List.map_cons, List.sum_cons, List.length_cons]
    omega
def spPText (K : PySem.W.Frag) : Sp := fun vs H Q _ => ∃ (p : Addr) (g : Pg), vs = [.ref p] ∧ PgAt H p g ∧ g.fine ∧ ∀ H', Kept None H H' → Q (.str (textOf g)) H'
section
variable {P : Program} {w : World} {K : PySem.W.Frag} {mg : PySem.Str → Option Value} {base : Heap} {f fE fW fR : Addr} {fd fdE fdW fdR : FuncData} {n : Nat}
theorem ok_ptext (F : FnP K "program_text" sProgramText f fd) (GR : FnOk P w K mg base CX0 (2 + 2 * 7) fR fdR ["rows", "lines"] (spShowR 7)) (bR : Binds K fdR ["rows", "lines"] []) (kR : PySem.W.keepIn K (.ref fR) = true) (gR : mg "_show_rows" = some (.ref fR)) : FnOk P w K mg base CX0 17 f fd ["program"] (spPText K) := by
  refine F.ok (k := 16) scProgramText (fun vs H Q E h => ?_) (fun cdv A outer s H vs Q E hr h => ?_)
  · obtain ⟨p, g, rfl, _⟩ := h
    rfl
  · obtain ⟨p, ⟨v, xs, t⟩, rfl, ⟨q1, q2, rs, hp, h1, h2, it⟩, fn, q⟩ := h
    have lw := Pg.lw fn
    have few := Pg.few fn
    obtain ⟨v1, v2, x4, nm, fa, ft⟩ := fn
    dsimp only at v1 v2 x4 nm fa ft hp h1 h2 it
    refine ⟨_, PSs.nox (pss_cons (ps_asg (pv 0) (pg_tup rfl (pgs_cons (pg_name (i := 1) scProgramText.nd rfl (Or.inl rfl)) (pgs_cons (pg_name (i := 2) scProgramText.nd rfl (Or.inl rfl)) (pgs_cons (pg_name (i := 3) scProgramText.nd rfl (Or.inl rfl)) pgs_nil)))))
    (pss_cons (ps_set (i := 4) scProgramText.nd rfl (Or.inl rfl) (pe_lst (pa_cons (pe_joined (.cons pe_str (.cons (pe_fmt (pv 1)) .nil))) (pa_cons (pe_join pe_str (pe_lst (pa_cons pe_str (StX.pa_star (pv 2) pa_nil)))) pa_nil))))
    (pss_cons (ps_expr (pe_call GR hr (by rfl) gR kR bR .nil pass0 (pa_cons (pv 3) (pa_cons (pv 4) pa_nil))))
    (pss_one (ps_ret (pe_join pe_str (pv 4))))))), ?_⟩
    have szl := sizeLine_eq
    have hv : v < 4096 := by omega
    refine ⟨.ref p, rfl, p, _, rfl, SqT.of hp, rfl, .int (v : Int), [.ref q1, .ref q2], rfl, .ref q1, [.ref q2], rfl, .ref q2, [], rfl, rfl, ?_⟩
    have l8 := (dec_num hv).2
    have b1 : (PySem.Str.empty ++ ("wide " : PySem.Str)).length ≤ 10 := by decide +kernel
    refine ⟨"wide ", rfl, szBig (Nat.le_trans b1 (by decide)), .int (v : Int), rfl, .inr ⟨(v : Int), rfl, sm_log hv, dec v, rfl, szBig (Nat.le_trans (app_le b1 l8 (by decide)) (show 20 ≤ 1000 by decide)), ?_⟩⟩
    refine ⟨⟨_, rfl⟩, .ref q1, rfl, q1, _, rfl, .inl (SqT.of h1), ?_⟩
    refine ⟨by simp only [List.length_cons, List.length_append, List.length_map, List.length_nil]; omega, fun l hl => ?_⟩
    have e0 : (V.str "in" :: (xs.map V.str ++ [])) = (("in" : PySem.Str) :: xs).map V.str := by simp
    rw [e0]
    have kl : Kept None H (upd H l (.lst ((("in" : PySem.Str) :: xs).map V.str))) := Kept.refl.new hl
    have li := spj_len (fun w hw => ((lw _ (List.mem_cons_of_mem _ List.mem_cons_self)).2.1 w hw).2) (lw (("in" : PySem.Str) :: xs) (List.mem_cons_of_mem _ List.mem_cons_self)).2.2
    refine ⟨" ", l, ("in" : PySem.Str) :: xs, rfl, rfl, .inl (SqL.of upd_same), ?_, (show 2 ≤ sizeLine by decide), fun L hL => ?_⟩
    · have := sum8 (fun w hw => ((lw ((("in" : PySem.Str) :: xs)) (List.mem_cons_of_mem _ List.mem_cons_self)).2.1 w hw).2)
      rw [show (" " : PySem.Str).length = 1 from by decide +kernel]
      simp only [List.length_cons] at this ⊢
      omega
    have ew : ((PySem.Str.empty ++ ("wide " : PySem.Str)) ++ dec v) = spj ["wide", dec v] := by
      refine str_eq ?_
      rw [spj_cons, spj_one]
      show tl _ = _
      rw [tl_append, tl_append, show tl PySem.Str.empty = [] from rfl, show tl ("wide " : PySem.Str) = ("wide" : PySem.Str).cps.toList ++ [32] from by decide +kernel]
      simp
    have k2 : Kept None H (upd (upd H l (.lst ((("in" : PySem.Str) :: xs).map V.str))) L (.lst [.str ((PySem.Str.empty ++ ("wide " : PySem.Str)) ++ dec v), .str (Txt.join " " (("in" : PySem.Str) :: xs))])) := kl.new (kl.free hL)
    have hL0 := kl.free hL
    have eL : upd (upd H l (.lst ((("in" : PySem.Str) :: xs).map V.str))) L (.lst [.str ((PySem.Str.empty ++ ("wide " : PySem.Str)) ++ dec v), .str (Txt.join " " (("in" : PySem.Str) :: xs))]) L = some (.lst ([spj ["wide", dec v], spj (("in" : PySem.Str) :: xs)].map V.str)) := by rw [upd_same, ew]; rfl
    generalize upd (upd H l (.lst ((("in" : PySem.Str) :: xs).map V.str))) L (.lst [.str ((PySem.Str.empty ++ ("wide " : PySem.Str)) ++ dec v), .str (Txt.join " " (("in" : PySem.Str) :: xs))]) = H2 at k2 eL ⊢
    simp only [Pg.lines, List.length_cons] at few
    refine ⟨.ref q2, rfl, .ref L, rfl, q2, L, rs, t, _, v, 1, 0, rfl, rfl, by decide, k2.tup h2 fun z => z, it.stay k2 fun _ _ _ z => z, ft, v2, eL, by simp only [List.length_cons, List.length_nil]; omega, fun H3 k3 e3 => ?_⟩
    have tlen := text_len lw
    refine ⟨⟨_, rfl⟩, .ref L, rfl, "\n", L, _, rfl, rfl, .inl (SqL.of e3), ?_, ?_⟩
    · rw [show ("\n" : PySem.Str).length = 1 from by decide +kernel]
      simp only [Pg.lines, List.map_cons, List.sum_cons, List.length_cons, List.cons_append, List.nil_append, List.length_map] at tlen ⊢
      omega
    · refine q H3 fun b o e _ => ?_
      refine ko_trans (k2 b o e fun z => z) fun u eu => k3 b u eu ?_
      exact ne_of_none e hL0
end
end K9

set_option Elab.async false
set_option linter.all false
set_option maxRecDepth 100000
set_option maxHeartbeats 4000000
namespace K9
open PySem PySem.Spec PyProof.Rows L2
/-! ### a draw and a new list beside it -/
theorem Dr.apart {H : Hp} {d c p : Addr} {ns : List Int} {n : Nat} (D : Dr H d c ns n) (h : H p = none) : ¬ p = d := fun e => by
  obtain ⟨_, _, _, z, _⟩ := D.at_
  rw [e, z] at h
  cases h
theorem Dr.apartC {H : Hp} {d c p : Addr} {ns : List Int} {n : Nat} (D : Dr H d c ns n) (h : H p = none) : ¬ p = c := fun z => by
  rw [z, D.cs] at h
  cases h
abbrev At2 (d L : Addr) : Addr → Prop := fun b => b = d ∨ b = L
theorem Kept.drop {H H3 H' : Hp} {d L : Addr} (a : Kept (At d) H H3) (n : H L = none) (b : Kept (At2 d L) H3 H') : Kept (At d) H H' := fun x o e hx => by
  refine ko_trans (a x o e hx) fun u q => b x u q ?_
  rintro (z | z)
  · exact hx z
  · exact ne_of_none e n z
theorem Kept.sql2 {K : PySem.W.Frag} {H H' : Hp} {d L p : Addr} {xs : List V} (k : Kept (At2 d L) H H') (n : H L = none) (nd : ¬ p = d) (h : SqL K H p xs) : SqL K H' p xs := by
  have nl : ∀ {o}, H p = some o → ¬ At2 d L p := fun {o} e z => by
    rcases z with z | z
    · exact nd z
    · exact ne_of_none e n z
  rcases h with (h | ⟨o, h⟩) | h
  · exact .inl (.inl (k.lst h (nl h)))
  · exact .inl (.inr ⟨o, k.frz h (nl h)⟩)
  · exact .inr h
theorem Dr.keep {H : Hp} {d c p : Addr} {o : HO} {ns : List Int} {n : Nat} (D : Dr H d c ns n) (h1 : p ≠ d) (h2 : p ≠ c) : Dr (L2.upd H p o) d c ns n := by
  obtain ⟨a, l, u, h, r⟩ := D.at_
  exact ⟨⟨a, l, u, by rw [upd_ne (Ne.symm h1)]; exact h, r⟩, by rw [upd_ne (Ne.symm h2)]; exact D.cs, D.ne⟩
end K9

set_option Elab.async false
set_option linter.all false
set_option maxRecDepth 100000
set_option maxHeartbeats 4000000
namespace K9
open PySem PySem.Spec PyProof.Rows L2 TL
/-! ### names and expressions drawn -/
abbrev sLName : Stmt := top 40
theorem scLName : FnScope ["draw", "words", "size", "k"] ["draw"] (defScope sLName) := ⟨rfl, rfl, rfl, by decide +kernel, rfl, by decide +kernel, by decide +kernel⟩
def lettersZ : PySem.Str := "abcdefghijklmnopqrstuvwxyz"
theorem letters_list : lettersZ.cps.toList = List.range' 97 26 := by decide +kernel
def one (e : Nat) : PySem.Str := ⟨#[e]⟩
def ov (e : Nat) : V := .str (one e)
theorem ones_sum (es : List Nat) : ((es.map one).map (·.length)).sum = es.length := by
  induction es with
  | nil => rfl
  | cons e es ih => simp only [List.map_cons, List.sum_cons, List.length_cons] at ih ⊢; rw [ih]; show 1 + es.length = es.length + 1; omega
theorem ones_v (es : List Nat) : (es.map one).map V.str = es.map ov := by rw [List.map_map]; rfl
theorem joinL_ones : ∀ es : List Nat, joinL [] ((es.map one).map fun z => z.cps.toList) = es
  | [] => rfl
  | [e] => rfl
  | e :: x :: r => by
    have ih := joinL_ones (x :: r)
    show [e] ++ ([] ++ joinL [] (((x :: r).map one).map fun z => z.cps.toList)) = _
    rw [ih]
    rfl
theorem ones_mk (es : List Nat) : Txt.join (PySem.Str.ofString "") (es.map one) = mkS es := by
  refine str_eq ?_
  rw [join_list, mkS_list, show (PySem.Str.ofString "").cps.toList = [] from by decide +kernel]
  exact joinL_ones es
theorem low_ok : ∀ c, c < 123 → 97 ≤ c → (!decide ([c] < ("a" : PySem.Str).cps.toList) && !decide (("z" : PySem.Str).cps.toList < [c])) = true := by decide +kernel
theorem nm_mk {es : List Nat} (h1 : 1 ≤ es.length) (h2 : es.length ≤ 8) (h : ∀ e ∈ es, 97 ≤ e ∧ e ≤ 122) : Nm (mkS es) := by
  unfold Nm nameB
  dsimp only
  rw [mkS_len, mkS_list, decide_eq_true h1, decide_eq_true h2]
  show lowB es = true
  unfold lowB
  exact List.all_eq_true.mpr fun c hc => low_ok c (by have := h c hc; omega) (h c hc).1
theorem at_nat {xs : List V} {r : Int} {m : Nat} (h0 : 0 ≤ r) (h1 : r < (m : Int)) (hm : xs.length = m) (Pv : V → Prop) (h : ∀ x ∈ xs, Pv x) : ∃ x, atI xs r = some x ∧ Pv x := by
  obtain ⟨j, rfl⟩ : ∃ j : Nat, r = (j : Int) := ⟨r.toNat, by omega⟩
  have hj : j < xs.length := by omega
  exact ⟨xs[j], atI_nat (j := j) (List.getElem?_eq_getElem hj), h _ (List.getElem_mem hj)⟩
theorem wordsZ_nm : ∀ x ∈ (["wide", "in", "set", "tell", "if", "else", "end", "round", "number", "copy", "add", "pick", "up", "same"] : List PySem.Str), nameB (.str x) = true := by decide +kernel
def spLName : Sp := fun vs H Q _ => ∃ (d c : Addr) (ns : List Int) (n : Nat), vs = [.ref d] ∧ Dr H d c ns n ∧ n ≤ 900000000 ∧ ∀ (x : PySem.Str) H', Nm x → Kept (At d) H H' → Dr H' d c ns (n + 11) → Q (.str x) H'
section
variable {P : Program} {w : World} {K : PySem.W.Frag} {mg : PySem.Str → Option Value} {base : Heap} {f fN fM : Addr} {fd fdN fdM : FuncData}
theorem ok_lname (F : FnP K "_law_name" sLName f fd) (GN : FnOk P w K mg base CX0 2 fN fdN ["draw", "many"] spNext) (bN : Binds K fdN ["draw", "many"] []) (kN : PySem.W.keepIn K (.ref fN) = true) (gN : mg "_law_next" = some (.ref fN)) (m_range : mg "range" = none) : FnOk P w K mg base CX0 3 f fd ["draw"] spLName := by
  refine F.ok (k := 2) scLName (fun vs H Q E h => ?_) (fun cdv A outer s H vs Q E hr h => ?_)
  · obtain ⟨d, c, ns, n, rfl, _⟩ := h
    rfl
  · obtain ⟨d, c, ns, n, rfl, D, hn, q⟩ := h
    refine ⟨_, PSs.nox (pss_cons (ps_set (i := 1) scLName.nd rfl (Or.inl rfl) (pe_lst (pa_cons pe_str (pa_cons pe_str (pa_cons pe_str (pa_cons pe_str (pa_cons pe_str (pa_cons pe_str (pa_cons pe_str (pa_cons pe_str (pa_cons pe_str (pa_cons pe_str (pa_cons pe_str (pa_cons pe_str (pa_cons pe_str (pa_cons pe_str pa_nil))))))))))))))))
    (pss_cons (ps_if (pt_cmpR op_eq (pe_call GN hr (by rfl) gN kN bN .nil pass0 (pa_cons (pv 0) (pa_cons pe_int pa_nil))) pe_int (nomark _))
      (pss_one (ps_ret (pe_ix ix_list (pv 1) (pe_call GN hr (by rfl) gN kN bN .nil pass0 (pa_cons (pv 0) (pa_cons pe_int pa_nil))) (fun _ _ => rfl))))
      pss_nil)
    (pss_cons (ps_set (i := 2) scLName.nd rfl (Or.inl rfl) (pe_ix ix_list (pe_lst (pa_cons pe_int (pa_cons pe_int (pa_cons pe_int (pa_cons (pe_op op_add pe_int (pe_call GN hr (by rfl) gN kN bN .nil pass0 (pa_cons (pv 0) (pa_cons pe_int pa_nil)))) pa_nil))))) (pe_call GN hr (by rfl) gN kN bN .nil pass0 (pa_cons (pv 0) (pa_cons pe_int pa_nil))) (fun _ _ => rfl)))
    (pss_one (ps_ret (pe_join pe_str (pe_lc (own := [("k", 3)]) (g := gName 3) (tt := tYes) rfl scLName.nd (pi_range1 rfl m_range (pa_cons (pv 2) pa_nil)) (blkOk_by (own := [("k", 3)]) (N := ["draw", "words", "size", "k"]) (sc := defScope sLName) (by decide +kernel)) (by exact (fun _ _ _ _ _ => (pg_name (i := 3) scLName.nd rfl (Or.inl rfl)))) (by exact (fun _ _ _ _ _ => pts_nil)) (by exact (fun _ _ _ _ _ => (pe_ix ix_str pe_str (pe_call GN hr (by rfl) gN kN bN .nil pass0 (pa_cons (pv 0) (pa_cons pe_int pa_nil))) (fun _ _ => rfl))))))))))), ?_⟩
    have szl := sizeLine_eq
    refine ⟨(show 14 ≤ sizeLine by decide), fun W hW => ?_⟩
    have k1 : Kept (At d) H (upd H W (.lst [.str "wide", .str "in", .str "set", .str "tell", .str "if", .str "else", .str "end", .str "round", .str "number", .str "copy", .str "add", .str "pick", .str "up", .str "same"])) := Kept.refl.new hW
    have D1 := D.new hW (o := .lst [.str "wide", .str "in", .str "set", .str "tell", .str "if", .str "else", .str "end", .str "round", .str "number", .str "copy", .str "add", .str "pick", .str "up", .str "same"])
    have eW : upd H W (.lst [.str "wide", .str "in", .str "set", .str "tell", .str "if", .str "else", .str "end", .str "round", .str "number", .str "copy", .str "add", .str "pick", .str "up", .str "same"]) W = some (.lst [.str "wide", .str "in", .str "set", .str "tell", .str "if", .str "else", .str "end", .str "round", .str "number", .str "copy", .str "add", .str "pick", .str "up", .str "same"]) := upd_same
    have hWd := D.apart hW
    generalize upd H W (.lst [.str "wide", .str "in", .str "set", .str "tell", .str "if", .str "else", .str "end", .str "round", .str "number", .str "copy", .str "add", .str "pick", .str "up", .str "same"]) = H1 at k1 D1 eW ⊢
    refine ⟨.ref d, rfl, d, c, ns, n, 5, rfl, D1, by omega, by decide, by decide, fun r1 H2 a1 b1 k2 D2 => ⟨rfl, _, rfl, ite2 (fun e => ?_) (fun e => ?_)⟩⟩
    · refine ⟨.ref W, rfl, .ref d, rfl, d, c, ns, _, 14, rfl, D2, by omega, by decide, by decide, fun r2 H3 a2 b2 k3 D3 => ?_⟩
      obtain ⟨x, hx, z, rfl, nz⟩ : ∃ x, atI ([.str "wide", .str "in", .str "set", .str "tell", .str "if", .str "else", .str "end", .str "round", .str "number", .str "copy", .str "add", .str "pick", .str "up", .str "same"] : List V) r2 = some x ∧ ∃ z : PySem.Str, x = .str z ∧ Nm z := at_nat (m := 14) a2 b2 rfl _ (fun x hx => by
        obtain ⟨z, hz, rfl⟩ := List.mem_map.mp (show x ∈ (["wide", "in", "set", "tell", "if", "else", "end", "round", "number", "copy", "add", "pick", "up", "same"] : List PySem.Str).map V.str from hx)
        exact ⟨z, rfl, wordsZ_nm z hz⟩)
      exact ⟨W, _, r2, .str z, rfl, rfl, SqL.of ((k2.trans k3).lst eW hWd), hx, q z H3 nz ((k1.trans k2).trans k3) (D3.more (by omega))⟩
    · refine ⟨.ref d, rfl, d, c, ns, _, 8, rfl, D2, by omega, by decide, by decide, fun r2 H3 a2 b2 k3 D3 => ?_⟩
      refine ⟨1, r2, rfl, rfl, (show 4 ≤ sizeLine by decide), fun p hp => ?_⟩
      have kp : Kept (At d) H (upd H3 p (.lst [.int 1, .int 2, .int 8, .int (1 + r2)])) := ((k1.trans k2).trans k3).nu D3 hp
      have Dp := D3.new hp (o := .lst [.int 1, .int 2, .int 8, .int (1 + r2)])
      refine ⟨.ref d, rfl, d, c, ns, _, 4, rfl, Dp, by omega, by decide, by decide, fun r3 H4 a3 b3 k4 D4 => ?_⟩
      obtain ⟨x, hx, sz, rfl, g0, g1⟩ : ∃ x, atI [V.int 1, .int 2, .int 8, .int (1 + r2)] r3 = some x ∧ ∃ m : Int, x = .int m ∧ 1 ≤ m ∧ m ≤ 8 := at_nat (m := 4) a3 b3 rfl _ (fun x hx => by
        simp only [List.mem_cons, List.not_mem_nil, or_false] at hx
        rcases hx with rfl | rfl | rfl | rfl
        · exact ⟨_, rfl, by omega, by omega⟩
        · exact ⟨_, rfl, by omega, by omega⟩
        · exact ⟨_, rfl, by omega, by omega⟩
        · exact ⟨_, rfl, by omega, by omega⟩)
      refine ⟨p, _, r3, .int sz, rfl, rfl, SqL.of (k4.lst upd_same (D3.apart hp)), hx, ?_⟩
      have kB := kp.trans k4
      clear hx k1 k2 k3 k4 D1 D2 D3 Dp kp
      refine ⟨⟨_, rfl⟩, .int sz, rfl, sz, rfl, by omega, by omega, fun L hL => ?_⟩
      have hLH : H L = none := At.free kB D4 hL
      have hLd : ¬ L = d := D4.apart hL
      have hLc := D4.apartC hL
      refine lc_range (lo := 0) (n := sz.toNat) (fun i H' => Kept (At2 d L) H4 H' ∧ Dr H' d c ns (n + 3 + i) ∧ ∃ es : List Nat, es.length = i ∧ H' L = some (.lst (es.map ov)) ∧ ∀ e ∈ es, 97 ≤ e ∧ e ≤ 122)
        ⟨Kept.refl.upd (.inr rfl), D4.keep hLd hLc, [], rfl, upd_same, by simp⟩ (fun i H' hi h => ?_) (fun H' h => ?_)
      · obtain ⟨ki, Di, es, e1, e2, e3⟩ := h
        refine ⟨rfl, ?_⟩
        unfold tYes
        dsimp only
        rw [if_pos rfl]
        refine ⟨.ref d, rfl, d, c, ns, _, 26, rfl, Di, by omega, by decide, by decide, fun r H4 r0 r1' kr Dr' => ?_⟩
        obtain ⟨jj, rfl⟩ : ∃ jj : Nat, r = (jj : Int) := ⟨r.toNat, by omega⟩
        have hjj : jj < 26 := by omega
        have hat : lettersZ.cps.toList[jj]? = some (97 + jj) := by
          rw [letters_list, List.getElem?_range' hjj, Nat.one_mul]
        have eL := kr.lst e2 hLd
        refine ⟨lettersZ, _, 97 + jj, rfl, rfl, by rw [len_list, letters_list]; simp; omega, atI_nat (j := jj) hat, es.map ov, eL, by rw [List.length_map]; omega, ?_, ?_, es ++ [97 + jj], by rw [List.length_append, e1]; rfl, by rw [upd_same, List.map_append]; rfl, fun e he => ?_⟩
        · exact (ki.trans (kr.weak fun b hb => .inl hb)).upd (.inr rfl)
        · exact Dr'.keep hLd hLc
        · rcases List.mem_append.mp he with h | h
          · exact e3 e h
          · rw [List.mem_singleton.mp h]; omega
      · obtain ⟨ki, Di, es, e1, e2, e3⟩ := h
        have kC : Kept (At d) H H' := kB.drop hLH ki
        refine ⟨_, L, es.map one, rfl, rfl, .inl (SqL.of (by rw [ones_v]; exact e2)), by rw [ones_sum, List.length_map]; show es.length + es.length * 0 ≤ 16777216; omega, ?_⟩
        rw [ones_mk]
        exact q (mkS es) H' (nm_mk (by omega) (by omega) e3) kC (Di.more (by omega))
end
end K9

set_option Elab.async false
set_option linter.all false
set_option maxRecDepth 100000
set_option maxHeartbeats 4000000
namespace K9
open PySem PySem.Spec PyProof.Rows L2 TL
abbrev sLExpr : Stmt := top 41
theorem scLExpr : FnScope ["draw", "wide", "words", "word", "k"] ["draw", "wide"] (defScope sLExpr) := ⟨rfl, rfl, rfl, by decide +kernel, rfl, by decide +kernel, by decide +kernel⟩
def words12 : List V := [.str "number", .str "copy", .str "add", .str "less", .str "and", .str "or", .str "unlike", .str "same", .str "below", .str "up", .str "down", .str "pick"]
def manyD : List (Key × V) := [(Sum.inr "copy", .int 1), (Sum.inr "pick", .int 3)]
def Tail (z : PySem.Str) : Prop := ∃ m : Nat, (valV (mergeK [] manyD) (Sum.inr z)).getD (.int 2) = .int (m : Int) ∧ 1 ≤ m ∧ m ≤ 3 ∧ ∀ ys : List PySem.Str, ys.length = m → ∃ ex : Ex, ex.vs = .str z :: ys.map V.str ∧ (∀ v, ex.ok v) ∧ ∀ y ∈ ex.names, y ∈ ys
theorem tail_copy : Tail "copy" := ⟨1, rfl, by decide, by decide, fun ys h => by
  match ys, h with
  | [y], _ => exact ⟨.copy y, rfl, fun _ => trivial, fun _ h => h⟩⟩
theorem tail_op (o : Op) : Tail o.name := ⟨2, by cases o <;> rfl, by decide, by decide, fun ys h => by
  match ys, h with
  | [y, z], _ => exact ⟨.two o y z, rfl, fun _ => trivial, fun _ h => h⟩⟩
theorem tail_pick : Tail "pick" := ⟨3, rfl, by decide, by decide, fun ys h => by
  match ys, h with
  | [c, y, z], _ => exact ⟨.pick c y z, rfl, fun _ => trivial, fun _ h => h⟩⟩
theorem word_of {r : Nat} (h : r < 12) : ∃ z : PySem.Str, words12[r]? = some (.str z) ∧ (z = "number" ∨ (z = "up" ∨ z = "down") ∨ (z ≠ "number" ∧ inV (.str z) [.str "up", .str "down"] = false ∧ Tail z)) := by
  rcases (show r = 0 ∨ r = 1 ∨ r = 2 ∨ r = 3 ∨ r = 4 ∨ r = 5 ∨ r = 6 ∨ r = 7 ∨ r = 8 ∨ r = 9 ∨ r = 10 ∨ r = 11 by omega) with rfl | rfl | rfl | rfl | rfl | rfl | rfl | rfl | rfl | rfl | rfl | rfl
  · exact ⟨_, rfl, .inl rfl⟩
  · exact ⟨_, rfl, .inr (.inr ⟨by decide, rfl, tail_copy⟩)⟩
  · exact ⟨_, rfl, .inr (.inr ⟨by decide, rfl, tail_op .add⟩)⟩
  · exact ⟨_, rfl, .inr (.inr ⟨by decide, rfl, tail_op .less⟩)⟩
  · exact ⟨_, rfl, .inr (.inr ⟨by decide, rfl, tail_op .and⟩)⟩
  · exact ⟨_, rfl, .inr (.inr ⟨by decide, rfl, tail_op .or⟩)⟩
  · exact ⟨_, rfl, .inr (.inr ⟨by decide, rfl, tail_op .unlike⟩)⟩
  · exact ⟨_, rfl, .inr (.inr ⟨by decide, rfl, tail_op .same⟩)⟩
  · exact ⟨_, rfl, .inr (.inr ⟨by decide, rfl, tail_op .below⟩)⟩
  · exact ⟨_, rfl, .inr (.inl (.inl rfl))⟩
  · exact ⟨_, rfl, .inr (.inl (.inr rfl))⟩
  · exact ⟨_, rfl, .inr (.inr ⟨by decide, rfl, tail_pick⟩)⟩
def spLExpr : Sp := fun vs H Q _ => ∃ (d c : Addr) (ns : List Int) (n v : Nat), vs = [.ref d, .int (v : Int)] ∧ Dr H d c ns n ∧ n ≤ 800000000 ∧ 1 ≤ v ∧ v ≤ 12 ∧
  ∀ (e : Ex) (p : Addr) H', e.ok v → (∀ x ∈ e.names, Nm x) → Kept (At d) H H' → Dr H' d c ns (n + 50) → H' p = some (.tup e.vs) → Q (.ref p) H'
section
variable {P : Program} {w : World} {K : PySem.W.Frag} {mg : PySem.Str → Option Value} {base : Heap} {f fN fM : Addr} {fd fdN fdM : FuncData}
theorem ok_lexpr (F : FnP K "_law_expr" sLExpr f fd) (GN : FnOk P w K mg base CX0 2 fN fdN ["draw", "many"] spNext) (bN : Binds K fdN ["draw", "many"] []) (kN : PySem.W.keepIn K (.ref fN) = true) (gN : mg "_law_next" = some (.ref fN))
    (GM : FnOk P w K mg base CX0 3 fM fdM ["draw"] spLName) (bM : Binds K fdM ["draw"] []) (kM : PySem.W.keepIn K (.ref fM) = true) (gM : mg "_law_name" = some (.ref fM)) (m_range : mg "range" = none) (m_tuple : mg "tuple" = none) : FnOk P w K mg base CX0 4 f fd ["draw", "wide"] spLExpr := by
  refine F.ok (k := 3) scLExpr (fun vs H Q E h => ?_) (fun cdv A outer s H vs Q E hr h => ?_)
  · obtain ⟨d, c, ns, n, v, rfl, _⟩ := h
    rfl
  · obtain ⟨d, c, ns, n, v, rfl, D, hn, w1, w2, q⟩ := h
    have hu := hu_of hr
    have GN3 := GN.mono (show 2 ≤ 3 by decide)
    refine ⟨_, PSs.nox (pss_cons (ps_set (i := 2) scLExpr.nd rfl (Or.inl rfl) (pe_lst (pa_cons pe_str (pa_cons pe_str (pa_cons pe_str (pa_cons pe_str (pa_cons pe_str (pa_cons pe_str (pa_cons pe_str (pa_cons pe_str (pa_cons pe_str (pa_cons pe_str (pa_cons pe_str (pa_cons pe_str pa_nil))))))))))))))
    (pss_cons (ps_set (i := 3) scLExpr.nd rfl (Or.inl rfl) (pe_ix ix_list (pv 2) (pe_call GN3 hr (by rfl) gN kN bN .nil pass0 (pa_cons (pv 0) (pa_cons pe_int pa_nil))) (fun _ _ => rfl)))
    (pss_cons (ps_if (pt_cmpR op_eq (pv 3) pe_str (nomark _))
      (pss_one (ps_ret (pe_tup (pa_cons (pv 3) (pa_cons (pe_ix ix_list (pe_lst (pa_cons pe_int (pa_cons (pe_op op_sub (pe_op n_bit pe_int (pv 1)) pe_int) (pa_cons (pe_call GN3 hr (by rfl) gN kN bN .nil pass0 (pa_cons (pv 0) (pa_cons (pe_op n_bit pe_int (pv 1)) pa_nil))) pa_nil)))) (pe_call GN3 hr (by rfl) gN kN bN .nil pass0 (pa_cons (pv 0) (pa_cons pe_int pa_nil))) (fun _ _ => rfl)) pa_nil)))))
      pss_nil)
    (pss_cons (ps_if (pt_cmpR op_in_seq (pv 3) (pe_tup (pa_cons pe_str (pa_cons pe_str pa_nil))) (by rfl))
      (pss_one (ps_ret (pe_tup (pa_cons (pv 3) (pa_cons (pe_call GM hr (by rfl) gM kM bM .nil pass0 (pa_cons (pv 0) pa_nil)) (pa_cons (pe_ix ix_list (pe_lst (pa_cons pe_int (pa_cons pe_int (pa_cons (pe_call GN3 hr (by rfl) gN kN bN .nil pass0 (pa_cons (pv 0) (pa_cons pe_int pa_nil))) pa_nil)))) (pe_call GN3 hr (by rfl) gN kN bN .nil pass0 (pa_cons (pv 0) (pa_cons pe_int pa_nil))) (fun _ _ => rfl)) pa_nil))))))
      pss_nil)
    (pss_one (ps_ret (pe_op op_catT (pe_tup (pa_cons (pv 3) pa_nil)) (pe_tupleOf (by rfl) m_tuple (pe_lc (own := [("k", 4)]) (g := gName 4) (tt := tYes) rfl scLExpr.nd (pi_range1 rfl m_range (pa_cons (pe_dget2 hu (pe_disp (pps_cons pe_str pe_int (pps_cons pe_str pe_int pps_nil)) (by rfl) (by rfl) (fun z => by cases z) (by decide)) (pv 3) pe_int ⟨rfl, rfl, rfl, rfl⟩) pa_nil)) (blkOk_by (own := [("k", 4)]) (N := ["draw", "wide", "words", "word", "k"]) (sc := defScope sLExpr) (by decide +kernel)) (by exact (fun _ _ _ _ _ => (pg_name (i := 4) scLExpr.nd rfl (Or.inl rfl)))) (by exact (fun _ _ _ _ _ => pts_nil)) (by exact (fun _ _ _ _ _ => (pe_call GM hr (by rfl) gM kM bM .nil pass0 (pa_cons (pv 0) pa_nil))))))))))))), ?_⟩
    have szl := sizeLine_eq
    have no : ∀ {y z : PySem.Str}, y ≠ z → ¬ decide (V.str y = V.str z) = true := fun h e => h (V.str.inj (of_decide_eq_true e))
    refine ⟨(show 12 ≤ sizeLine by decide), fun W hW => ?_⟩
    have k1 : Kept (At d) H (upd H W (.lst words12)) := Kept.refl.new hW
    have D1 : Dr (upd H W (.lst words12)) d c ns n := D.new hW
    have eW : upd H W (.lst words12) W = some (.lst words12) := upd_same
    have hWd := D.apart hW
    generalize hH1 : upd H W (.lst words12) = H1 at k1 D1 eW
    refine (?_ : _)
    rw [show upd H W (.lst [.str "number", .str "copy", .str "add", .str "less", .str "and", .str "or", .str "unlike", .str "same", .str "below", .str "up", .str "down", .str "pick"]) = H1 from hH1]
    refine ⟨.ref W, rfl, .ref d, rfl, d, c, ns, n, 12, rfl, D1, by omega, by decide, by decide, fun r H2 a0 a1 k2 D2 => ?_⟩
    obtain ⟨r, rfl⟩ := Int.eq_ofNat_of_zero_le a0
    obtain ⟨z, hz, hw⟩ := word_of (r := r) (by omega)
    refine ⟨W, _, r, .str z, rfl, rfl, SqL.of (k2.lst eW hWd), atI_nat hz, ?_⟩
    have kB := k1.trans k2
    have tl : 2 ^ v ≤ 4096 := Nat.pow_le_pow_right (n := 2) (i := v) (j := 12) (by decide) w2
    have tp := Nat.two_pow_pos v
    clear hH1
    rcases hw with rfl | hw | ⟨hn1, hin, m, hm, m1, m3, hta⟩
    · refine ⟨.str "number", rfl, rfl, _, rfl, ite2 (fun _ => ?_) (fun y => absurd (decide_eq_true rfl) y)⟩
      refine ⟨.str "number", rfl, .int v, rfl, v, rfl, rfl, by omega, ((2 ^ v : Nat) : Int), 1, rfl, rfl, .ref d, rfl, .int v, rfl, v, rfl, rfl, by omega, d, c, ns, _, ((2 ^ v : Nat) : Int), rfl, D2, by omega, by generalize 2 ^ v = u at tl tp ⊢; omega, by generalize 2 ^ v = u at tl tp ⊢; omega, fun r5 H5 b0 b1 k5 D5 => ⟨(show 3 ≤ sizeLine by decide), fun p hp => ?_⟩⟩
      refine ⟨.ref d, rfl, d, c, ns, _, 3, rfl, D5.new hp, by omega, by decide, by decide, fun r6 H6 c0 c1 k6 D6 => ?_⟩
      obtain ⟨x, hx, kk, rfl, hk⟩ : ∃ x, atI [V.int 0, .int (((2 ^ v : Nat) : Int) - 1), .int r5] r6 = some x ∧ ∃ m : Nat, x = .int (m : Int) ∧ m < 2 ^ v := at_nat (m := 3) c0 c1 rfl _ (fun x hx => by
        simp only [List.mem_cons, List.not_mem_nil, or_false] at hx
        rcases hx with rfl | rfl | rfl
        · exact ⟨0, rfl, tp⟩
        · exact ⟨2 ^ v - 1, by rw [show ((2 ^ v : Nat) : Int) - 1 = ((2 ^ v - 1 : Nat) : Int) by omega], by omega⟩
        · exact ⟨r5.toNat, by rw [Int.toNat_of_nonneg b0], by omega⟩)
      refine ⟨p, _, r6, .int (kk : Int), rfl, rfl, SqL.of (k6.lst upd_same (D5.apart hp)), hx, (show 2 ≤ sizeLine by decide), fun o ho => ?_⟩
      have kZ := ((kB.trans k5).nu D5 hp).trans k6
      exact q (.num kk) o _ hk (fun _ h => by cases h) (kZ.nu D6 ho) ((D6.new ho).more (by omega)) upd_same
    · have hud : z ≠ "number" ∧ inV (.str z) [.str "up", .str "down"] = true ∧ ∀ (y : PySem.Str) (kk : Nat), kk ≤ 11 → ∃ ex : Ex, ex.vs = [.str z, .str y, .int (kk : Int)] ∧ Ex.ok v ex ∧ ∀ x ∈ ex.names, x = y := by
        rcases hw with rfl | rfl
        · exact ⟨by decide, rfl, fun y kk hk => ⟨.up y kk, rfl, hk, fun x hx => List.mem_singleton.mp hx⟩⟩
        · exact ⟨by decide, rfl, fun y kk hk => ⟨.down y kk, rfl, hk, fun x hx => List.mem_singleton.mp hx⟩⟩
      obtain ⟨hn1, hin, hex⟩ := hud
      refine ⟨.str z, rfl, rfl, _, rfl, ite2 (fun y => absurd y (no hn1)) (fun _ => ?_)⟩
      refine ⟨.str z, rfl, (show 2 ≤ sizeLine by decide), fun t ht => ⟨t, _, rfl, .inr (SqT.of upd_same), rfl, rfl, _, rfl, ite2 (fun _ => ?_) (fun y => absurd hin y)⟩⟩
      have kT : Kept (At d) H (upd H2 t (.tup [.str "up", .str "down"])) := kB.nu D2 ht
      have DT : Dr (upd H2 t (.tup [.str "up", .str "down"])) d c ns (n + 1) := D2.new ht
      generalize upd H2 t (.tup [.str "up", .str "down"]) = H4 at kT DT ⊢
      refine ⟨.str z, rfl, .ref d, rfl, d, c, ns, _, rfl, DT, by omega, fun y H5 ny k5 D5 => ?_⟩
      refine ⟨.ref d, rfl, d, c, ns, _, 12, rfl, D5, by omega, by decide, by decide, fun r6 H6 c0 c1 k6 D6 => ⟨(show 3 ≤ sizeLine by decide), fun p hp => ?_⟩⟩
      refine ⟨.ref d, rfl, d, c, ns, _, 3, rfl, D6.new hp, by omega, by decide, by decide, fun r7 H7 d0 d1 k7 D7 => ?_⟩
      obtain ⟨x, hx, kk, rfl, hk⟩ : ∃ x, atI [V.int 0, .int 11, .int r6] r7 = some x ∧ ∃ m : Nat, x = .int (m : Int) ∧ m ≤ 11 := at_nat (m := 3) d0 d1 rfl _ (fun x hx => by
        simp only [List.mem_cons, List.not_mem_nil, or_false] at hx
        rcases hx with rfl | rfl | rfl
        · exact ⟨0, rfl, by decide⟩
        · exact ⟨11, rfl, by decide⟩
        · exact ⟨r6.toNat, by rw [Int.toNat_of_nonneg c0], by omega⟩)
      refine ⟨p, _, r7, .int (kk : Int), rfl, rfl, SqL.of (k7.lst upd_same (D6.apart hp)), hx, (show 3 ≤ sizeLine by decide), fun o ho => ?_⟩
      obtain ⟨ex, hvs, hok, hnm⟩ := hex y kk hk
      have kZ := (((kT.trans k5).trans k6).nu D6 hp).trans k7
      exact q ex o _ hok (fun x hx => by rw [hnm x hx]; exact ny) (kZ.nu D7 ho) ((D7.new ho).more (by omega)) (by rw [upd_same, hvs])
    · refine ⟨.str z, rfl, rfl, _, rfl, ite2 (fun y => absurd y (no hn1)) (fun _ => ?_)⟩
      refine ⟨.str z, rfl, (show 2 ≤ sizeLine by decide), fun t ht => ⟨t, _, rfl, .inr (SqT.of upd_same), rfl, rfl, _, rfl, ite2 (fun y => absurd (hin.symm.trans y) (by decide)) (fun _ => ?_)⟩⟩
      have kT : Kept (At d) H (upd H2 t (.tup [.str "up", .str "down"])) := kB.nu D2 ht
      have DT : Dr (upd H2 t (.tup [.str "up", .str "down"])) d c ns (n + 1) := D2.new ht
      generalize upd H2 t (.tup [.str "up", .str "down"]) = H4 at kT DT ⊢
      refine ⟨.str z, rfl, (show 1 ≤ sizeLine by decide), fun t2 ht2 => ?_⟩
      have kW : Kept (At d) H (upd H4 t2 (.tup [.str z])) := kT.nu DT ht2
      have DW : Dr (upd H4 t2 (.tup [.str z])) d c ns (n + 1) := DT.new ht2
      have et2 : upd H4 t2 (.tup [.str z]) t2 = some (.tup [.str z]) := upd_same
      generalize upd H4 t2 (.tup [.str z]) = H4' at kW DW et2 ⊢
      refine fun u hu4 => ?_
      refine ⟨upd_same, manyD, rfl, (show 2 ≤ 15 by decide), u, rfl, .inl ⟨_, .inl upd_same⟩, .str z, rfl, valV (mergeK [] manyD) (Sum.inr z), DGet.k (k := Sum.inr z) upd_same, ?_⟩
      rw [hm]
      have kU : Kept (At d) H (upd (upd H4' u (.dK [])) u (.dK (mergeK [] manyD))) := (kW.nu DW hu4).new (At.free kW DW hu4)
      have eU : upd (upd H4' u (.dK [])) u (.dK (mergeK [] manyD)) = upd H4' u (.dK (mergeK [] manyD)) := by
        funext b
        by_cases hb : b = u
        · rw [hb, upd_same, upd_same]
        · rw [upd_ne hb, upd_ne hb, upd_ne hb]
      have DU : Dr (upd (upd H4' u (.dK [])) u (.dK (mergeK [] manyD))) d c ns (n + 1) := by
        rw [eU]; exact DW.new hu4
      have et3 : upd (upd H4' u (.dK [])) u (.dK (mergeK [] manyD)) t2 = some (.tup [.str z]) := by
        rw [eU, upd_ne (ne_of_none et2 hu4)]; exact et2
      generalize upd (upd H4' u (.dK [])) u (.dK (mergeK [] manyD)) = H5 at kU DU et3 ⊢
      refine ⟨(m : Int), rfl, by omega, by omega, fun L hL => ?_⟩
      have hLH : H L = none := At.free kU DU hL
      have hLd : ¬ L = d := DU.apart hL
      have hLc := DU.apartC hL
      have tL : t2 ≠ L := ne_of_none et3 hL
      have t2d : ¬ t2 = d := fun y => by
        obtain ⟨_, _, _, y2, _⟩ := DU.at_
        rw [← y, et3] at y2; cases y2
      refine lc_range (lo := 0) (n := m) (fun i H' => Kept (At2 d L) H5 H' ∧ Dr H' d c ns (n + 1 + 11 * i) ∧ ∃ es : List PySem.Str, es.length = i ∧ H' L = some (.lst (es.map V.str)) ∧ ∀ x ∈ es, Nm x)
        ⟨Kept.refl.upd (.inr rfl), DU.keep hLd hLc, [], rfl, upd_same, by simp⟩ (fun i H' hi h => ?_) (fun H' h => ?_)
      · obtain ⟨ki, Di, es, e1, e2, e3⟩ := h
        refine ⟨rfl, ?_⟩
        unfold tYes
        dsimp only
        rw [if_pos rfl]
        refine ⟨.ref d, rfl, d, c, ns, _, rfl, Di, by omega, fun x H6 nx k6 D6 => ?_⟩
        refine ⟨es.map V.str, k6.lst e2 hLd, by rw [List.length_map]; omega, (ki.trans (k6.weak fun b hb => .inl hb)).upd (.inr rfl), (D6.keep hLd hLc).more (by omega), es ++ [x], by rw [List.length_append, e1]; rfl, by rw [upd_same, List.map_append]; rfl, fun y hy => ?_⟩
        rcases List.mem_append.mp hy with h | h
        · exact e3 y h
        · rw [List.mem_singleton.mp h]; exact nx
      · obtain ⟨ki, Di, es, e1, e2, e3⟩ := h
        have kH : Kept (At d) H H' := kU.drop hLH ki
        obtain ⟨ex, hvs, hok, hnm⟩ := hta es e1
        have et4 : H' t2 = some (.tup [.str z]) := ki.tup et3 fun y => y.elim t2d tL
        refine .inl ⟨L, _, rfl, SqL.of e2, fun M hM => ?_⟩
        have tM : t2 ≠ M := ne_of_none et4 hM
        refine ⟨t2, M, [.str z], es.map V.str, rfl, rfl, SqT.of (by rw [upd_ne tM]; exact et4), SqT.of upd_same, (fun y => nomatch y), by rw [List.length_map, List.length_singleton]; omega, (fun y => by
          have := congrArg List.length y
          rw [List.length_map, e1] at this
          exact absurd this (by simp; omega)), fun _ o ho => ?_⟩
        have kM := kH.nu Di hM (o := .tup (es.map V.str))
        have DM := Di.new hM (o := .tup (es.map V.str))
        exact q ex o _ (hok v) (fun x hx => e3 x (hnm x hx)) (kM.nu DM ho) ((DM.new ho).more (by omega)) (by rw [upd_same, hvs]; rfl)
end
end K9

set_option Elab.async false
set_option linter.all false
set_option maxRecDepth 100000
set_option maxHeartbeats 800000
namespace K9
open PySem PySem.Spec PyProof.Rows L2 TL
/-! ### a text, times -/
def repS (z : PySem.Str) (n : Nat) : PySem.Str := ⟨(List.replicate n z.cps).foldl (· ++ ·) #[]⟩
theorem repS_go (c : Array Nat) : ∀ (n : Nat) (a : Array Nat), ((List.replicate n c).foldl (· ++ ·) a).toList = a.toList ++ (List.replicate n c.toList).flatten
  | 0, a => by simp
  | n + 1, a => by
    rw [List.replicate_succ, List.foldl_cons, repS_go c n, List.replicate_succ, List.flatten_cons, Array.toList_append, List.append_assoc]
theorem repS_list (z : PySem.Str) (n : Nat) : (repS z n).cps.toList = (List.replicate n z.cps.toList).flatten := by
  unfold repS
  rw [repS_go]
  rfl
theorem repS_len (z : PySem.Str) (n : Nat) : (repS z n).length = n * z.length := by
  rw [len_list, repS_list, len_list, List.length_flatten, List.map_replicate, List.sum_replicate_nat]
def rMulS : R2 := fun x y H Q => ∃ (z : PySem.Str) (n : Nat), x = .str z ∧ y = .int (n : Int) ∧ 2 ≤ n ∧ n ≤ 1000000 ∧ 1 ≤ z.length ∧ z.length * n ≤ 1000000 ∧ Q (.str (repS z n)) H
theorem op_mulS {X : Cx} : OpR X (binaryOp .Mult) rMulS := by
  intro pins s σ H x y v u Q I rx ry h
  obtain ⟨z, n, rfl, rfl, h1, h2, h3, h4, q⟩ := h
  obtain ⟨t, rfl⟩ := rx
  obtain ⟨t', rfl⟩ := ry
  have e1 : ¬ ((n : Int) < 1) := by omega
  have e2 : ((n : Int) == 1 || z.length == 0) = false := by
    rw [beq_eq_false_iff_ne.mpr (show (n : Int) ≠ 1 by omega), beq_eq_false_iff_ne.mpr (show z.length ≠ 0 by omega)]
    rfl
  refine PySem.P.mul_str (by rw [decide_eq_false (by omega), decide_eq_false (by omega)]; rfl) (fun _ _ => ?_) (fun _ _ => ?_) ?_
  · have a1 : ((z.length * n : Nat) : Int) ≤ 1000000 := by generalize z.length * n = u at h4; omega
    rw [Int.natCast_mul] at a1
    have a2 : (z.length : Int) ≤ (2 ^ 63 - 1) / (n : Int) := Int.le_ediv_of_mul_le (by omega) (by omega)
    omega
  · unfold PySem.Builtin.Str.tooLong
    have szl := sizeLine_eq
    refine decide_eq_false ?_
    rw [Int.toNat_natCast]
    omega
  · rw [if_neg e1, if_neg (by rw [e2]; decide)]
    have sz : (repS z n).cps.size ≤ sizeLine := by
      have e := repS_len z n
      have szl := sizeLine_eq
      have e3 : (repS z n).length = (repS z n).cps.size := rfl
      rw [Nat.mul_comm] at e
      omega
    exact ⟨sz, .str (repS z n), H, I.tok _, ⟨_, rfl⟩, q⟩
/-! ### rows of long texts -/
def rowsL (l : List Nat) : List (List PySem.Str) := (rows l).map fun r => r.map mkS
theorem rowsS_L (z : PySem.Str) : rowsS z = rowsL z.cps.toList := rfl
theorem parts_cut (c : Nat) : ∀ a b : List Nat, parts c (a ++ c :: b) = parts c a ++ parts c b
  | [], b => parts_hit c b
  | x :: a, b => by
    have ih := parts_cut c a b
    by_cases hx : x = c
    · subst hx
      rw [List.cons_append, parts_hit, ih, parts_hit, List.cons_append]
    · unfold parts at ih
      rw [List.cons_append] at ih
      obtain ⟨i1, i2⟩ := List.cons.inj ih
      rw [List.cons_append, parts_miss hx, i1, i2, parts_miss hx]
      rfl
theorem rowsL_cut (a b : List Nat) : rowsL (a ++ 10 :: b) = rowsL a ++ rowsL b := by
  unfold rowsL rows
  rw [parts_cut, List.map_append, List.map_append]
theorem rowsL_one {l : List Nat} (h : 10 ∉ l) : rowsL l = [(words l).map mkS] := by
  unfold rowsL rows
  rw [parts_one h]
  rfl
theorem rowsL_nl (b : List Nat) : rowsL (10 :: b) = [] :: rowsL b := by
  unfold rowsL rows
  rw [parts_hit]
  rfl
theorem rowsL_nil : rowsL [] = [[]] := rfl
theorem rowsL_rep (a b : List Nat) : ∀ n, rowsL ((List.replicate n (a ++ [10])).flatten ++ b) = (List.replicate n (rowsL a)).flatten ++ rowsL b
  | 0 => rfl
  | n + 1 => by
    rw [List.replicate_succ, List.flatten_cons, List.append_assoc, List.append_assoc, List.singleton_append, rowsL_cut, rowsL_rep a b n, List.replicate_succ, List.flatten_cons, List.append_assoc]
theorem rowsS_nlj : ∀ {ts : List PySem.Str}, ts ≠ [] → rowsS (nlj ts) = ts.flatMap rowsS
  | [], h => absurd rfl h
  | [t], _ => by
    unfold nlj
    rw [rowsS_L, join_list]
    simp [joinL, rowsS_L]
  | t :: x :: r, _ => by
    have ih := rowsS_nlj (ts := x :: r) (by simp)
    unfold nlj at ih ⊢
    rw [rowsS_L, join_list] at ih ⊢
    rw [List.flatMap_cons, ← ih, nl_list, List.map_cons, List.map_cons]
    show rowsL (t.cps.toList ++ ([10] ++ joinL [10] (x.cps.toList :: r.map fun z => z.cps.toList))) = _
    rw [List.singleton_append, rowsL_cut]
    rfl
theorem rowsS_spj {ws : List PySem.Str} (h : ∀ w ∈ ws, Wt w) : rowsS (spj ws) = [ws] := by
  rw [rowsS_L, rowsL_one (spj_no h)]
  unfold spj
  rw [join_list, sp_list, words_join (wd_map h), map_tl]
theorem numb_apps : ∀ (A B : List (List PySem.Str)) (k : Nat), numb k (A ++ B) = numb k A ++ numb (k + A.length) B
  | [], B, k => rfl
  | ws :: A, B, k => by
    have ih := numb_apps A B (k + 1)
    rw [List.length_cons, show k + (A.length + 1) = k + 1 + A.length by omega, List.cons_append, numb, numb, ih]
    split <;> rfl
theorem numb_empty : ∀ (n k : Nat), numb k (List.replicate n []) = []
  | 0, _ => rfl
  | n + 1, k => by rw [List.replicate_succ, numb, if_pos rfl, numb_empty n]
/-! ### heads -/
theorem num_wide : ∀ v, v < 13 → 1 ≤ v → numW 1 12 (dec v) = some v := by decide +kernel
theorem inS_names : ∀ (xs : List PySem.Str) (k : Nat), (∀ x ∈ xs, Nm x) → badAt (List.replicate xs.length So.name) xs k = 0
  | [], _, _ => rfl
  | x :: r, k, h => by
    rw [List.length_cons, List.replicate_succ, badAt, if_pos (show So.fits .name x = true from h x List.mem_cons_self)]
    exact inS_names r (k + 1) fun y hy => h y (List.mem_cons_of_mem _ hy)
theorem due_head {v : Nat} {xs : List PySem.Str} {R : List (List PySem.Str)} (v1 : 1 ≤ v) (v2 : v ≤ 12) (x4 : xs.length ≤ 4) (nm : ∀ x ∈ xs, Nm x) :
    due (["wide", dec v] :: ("in" :: xs) :: R) = dueG v (R.length + 3) [] 0 (numb 3 R) := by
  have nw := num_wide v (by omega) v1
  have b1 : badHead "wide" [.num 1 12] ["wide", dec v] = 0 := by
    unfold badHead
    dsimp only
    rw [if_pos rfl]
    unfold badAt
    have f : So.fits (.num 1 12) (dec v) = true := by
      show (numW 1 12 (dec v)).isSome = true
      rw [nw]; rfl
    rw [if_pos f]
    rfl
  have b2 : badHead "in" (inS ("in" :: xs)) ("in" :: xs) = 0 := by
    unfold badHead inS
    dsimp only
    rw [if_pos rfl, List.length_cons, Nat.add_sub_cancel, Nat.min_eq_left x4]
    exact inS_names xs 2 nm
  have w1 : wideOf ["wide", dec v] = v := by
    unfold wideOf
    show (numW 1 12 (dec v)).getD 0 = v
    rw [nw]
    rfl
  unfold due
  rw [numb, if_neg (by simp), numb, if_neg (by simp), dueL, if_pos b1, dueR, if_pos b2, w1]
  rfl
/-! ### lines that are right -/
def GoodL (v : Nat) (ws : List PySem.Str) : Prop := ws ≠ [] ∧ ∀ m, m < 60 → ∀ S : List Bk, S.length < 6 → step v S m ws = .inr (S, m + 1)
/-- lines that are one row, beginning and ending outside of all -/
def Blk (v : Nat) (B : List (List PySem.Str)) : Prop := ∀ N m k R, m < 60 → dueG v N [] m (numb k (B ++ R)) = dueG v N [] (m + 1) (numb (k + B.length) R)
theorem GoodL.dueG {v : Nat} {ws : List PySem.Str} (g : GoodL v ws) {N m k : Nat} {S : List Bk} {R : List (List PySem.Str)} (hm : m < 60) (hS : S.length < 6) : dueG v N S m (numb k (ws :: R)) = dueG v N S (m + 1) (numb (k + 1) R) := by
  rw [numb, if_neg g.1, K9.dueG, g.2 m hm S hS]
theorem GoodL.blk {v : Nat} {ws : List PySem.Str} (g : GoodL v ws) : Blk v [ws] := fun N m k R hm => g.dueG hm (by decide)
theorem blks {v : Nat} : ∀ (Bs : List (List (List PySem.Str))), (∀ B ∈ Bs, Blk v B) → ∀ N m k R, m + Bs.length ≤ 60 → dueG v N [] m (numb k (Bs.flatten ++ R)) = dueG v N [] (m + Bs.length) (numb (k + Bs.flatten.length) R)
  | [], _, N, m, k, R, _ => rfl
  | B :: Bs, h, N, m, k, R, hm => by
    rw [List.length_cons] at hm
    rw [List.flatten_cons, List.append_assoc, h B List.mem_cons_self N m k _ (by omega), blks Bs (fun C hC => h C (List.mem_cons_of_mem _ hC)) N (m + 1) _ R (by omega), List.length_cons, List.length_append,
      show m + 1 + Bs.length = m + (Bs.length + 1) by omega, show k + B.length + Bs.flatten.length = k + (B.length + Bs.flatten.length) by omega]
theorem tell_good {v : Nat} {x : PySem.Str} (h : Nm x) : GoodL v ["tell", x] := ⟨by simp, fun m hm S hS => by
  have f : So.fits .name x = true := h
  unfold step
  dsimp only
  rw [if_neg (by decide +kernel), if_neg (by decide +kernel), if_neg (fun z => z ⟨hm, hS⟩), if_neg (by decide +kernel), if_pos rfl, badAt, if_pos f]
  rfl⟩
theorem set_step {v m : Nat} {S : List Bk} {r : List PySem.Str} (hm : m < 60) (hS : S.length < 6) : step v S m ("set" :: r) = fin (badAt (setS v r) r 2) (S, m + 1) := by
  unfold step
  dsimp only
  rw [if_neg (by decide +kernel), if_neg (by decide +kernel), if_neg (fun z => z ⟨hm, hS⟩), if_pos rfl]
theorem tell_step {v m : Nat} {S : List Bk} {r : List PySem.Str} (hm : m < 60) (hS : S.length < 6) : step v S m ("tell" :: r) = fin (badAt [.name] r 2) (S, m + 1) := by
  unfold step
  dsimp only
  rw [if_neg (by decide +kernel), if_neg (by decide +kernel), if_neg (fun z => z ⟨hm, hS⟩), if_neg (by decide +kernel), if_pos rfl]
end K9

set_option Elab.async false
set_option linter.all false
set_option maxRecDepth 100000
set_option maxHeartbeats 800000
namespace K9
open PySem PySem.Spec PyProof.Rows L2 TL
/-! ### texts far beyond -/
theorem app_list (a b : PySem.Str) : (a ++ b).cps.toList = a.cps.toList ++ b.cps.toList := by
  show (a.cps ++ b.cps).toList = _
  exact Array.toList_append
def headZ : PySem.Str := "wide 4\nin\n"
theorem head_list : headZ.cps.toList = ("wide 4" : PySem.Str).cps.toList ++ 10 :: (("in" : PySem.Str).cps.toList ++ 10 :: []) := by decide +kernel
theorem rows_wide4 : rowsL ("wide 4" : PySem.Str).cps.toList = ([["wide", dec 4]] : List (List PySem.Str)) := by decide +kernel
theorem rows_in : rowsL ("in" : PySem.Str).cps.toList = ([["in"]] : List (List PySem.Str)) := by decide +kernel
theorem due_far {z : PySem.Str} {l : List Nat} (h : z.cps.toList = headZ.cps.toList ++ l) : due (rowsS z) = dueG 4 ((rowsL l).length + 3) [] 0 (numb 3 (rowsL l)) := by
  rw [rowsS_L, h, head_list, List.append_assoc, List.cons_append, List.append_assoc, List.cons_append, List.nil_append, rowsL_cut, rowsL_cut, rows_wide4, rows_in]
  exact due_head (v := 4) (xs := []) (by decide) (by decide) (by decide) (fun x hx => by cases hx)
theorem due_first {A : List (List PySem.Str)} {n : Nat} {x : PySem.Str} {r : List PySem.Str} {T : List (Nat × List PySem.Str)} (h : numb 1 A = (n, x :: r) :: T) (hx : x ≠ "wide") : due A = some (n, 1) := by
  have b1 : badHead "wide" [.num 1 12] (x :: r) = 1 := by
    unfold badHead
    dsimp only
    rw [if_neg hx]
  unfold due
  rw [h, dueL, b1, if_neg (by decide)]
theorem due_empty {A : List (List PySem.Str)} (h : numb 1 A = []) : due A = some (A.length + 1, 1) := by
  unfold due
  rw [h]
  rfl
theorem rep1 (c n : Nat) : (List.replicate n [c]).flatten = List.replicate n c := by
  induction n with
  | zero => rfl
  | succ n ih => rw [List.replicate_succ, List.flatten_cons, ih, List.replicate_succ]; rfl
theorem mem_rep {c d n : Nat} (h : d ≠ c) : d ∉ List.replicate n c := fun z => h (List.eq_of_mem_replicate z)
theorem long_name {w : PySem.Str} (h : 8 < w.length) : So.fits .name w = false := by
  cases e : So.fits .name w with
  | false => rfl
  | true => have : Nm w := e; have := this.len; omega
theorem long_num {w : PySem.Str} {lo hi : Nat} (h : 4 < w.length) : So.fits (.num lo hi) w = false := by
  show (numW lo hi w).isSome = false
  cases e : numW lo hi w with
  | none => rfl
  | some n =>
    have := (num_parts (numW_some e).1).2.2.1
    rw [len_list] at h
    omega
theorem not_if {b : Bool} {α : Type} {x y : α} (h : b = false) : (if b = true then x else y) = y := by rw [h]; rfl
theorem rnd_step {v m : Nat} {S : List Bk} {r : List PySem.Str} (hm : m < 60) (hS : S.length < 6) (hr : rnds S < 3) : step v S m ("round" :: r) = fin (badAt [.num 0 12] r 2) (.rnd :: S, m + 1) := by
  unfold step
  dsimp only
  rw [if_neg (by decide +kernel), if_neg (by decide +kernel), if_neg (fun z => z ⟨hm, hS⟩), if_neg (by decide +kernel), if_neg (by decide +kernel), if_neg (by decide +kernel), if_pos ⟨rfl, hr⟩]
theorem rnd_more {v m : Nat} {S : List Bk} {r : List PySem.Str} (hr : ¬ rnds S < 3) : step v S m ("round" :: r) = .inl 1 := by
  unfold step
  dsimp only
  rw [if_neg (by decide +kernel), if_neg (by decide +kernel)]
  by_cases hm : m < 60 ∧ S.length < 6
  · rw [if_neg (fun z => z hm), if_neg (by decide +kernel), if_neg (by decide +kernel), if_neg (by decide +kernel), if_neg (fun z => hr z.2)]
  · rw [if_pos hm]
theorem if_step {v m : Nat} {S : List Bk} {r : List PySem.Str} (hm : m < 60) (hS : S.length < 6) : step v S m ("if" :: r) = fin (badAt [.name] r 2) (.ifk :: S, m + 1) := by
  unfold step
  dsimp only
  rw [if_neg (by decide +kernel), if_neg (by decide +kernel), if_neg (fun z => z ⟨hm, hS⟩), if_neg (by decide +kernel), if_neg (by decide +kernel), if_pos rfl]
/-- a row where no more may stand -/
theorem over_step {v m : Nat} {S : List Bk} {z : PySem.Str} {r : List PySem.Str} (h1 : z ≠ "else") (h2 : z ≠ "end") (h : ¬ (m < 60 ∧ S.length < 6)) : step v S m (z :: r) = .inl 1 := by
  unfold step
  dsimp only
  rw [if_neg h1, if_neg h2, if_pos h]
theorem dueG_ok {v N m k : Nat} {S S' : List Bk} {m' : Nat} {ws : List PySem.Str} {R : List (List PySem.Str)} (hn : ws ≠ []) (e : step v S m ws = .inr (S', m')) : dueG v N S m (numb k (ws :: R)) = dueG v N S' m' (numb (k + 1) R) := by
  rw [numb, if_neg hn, dueG, e]
theorem dueG_no {v N m k b : Nat} {S : List Bk} {ws : List PySem.Str} {R : List (List PySem.Str)} (hn : ws ≠ []) (e : step v S m ws = .inl b) : dueG v N S m (numb k (ws :: R)) = some (k, b) := by
  rw [numb, if_neg hn, dueG, e]
theorem fin_0 {α : Type} {x : α} {b : Nat} (h : b = 0) : fin b x = .inr x := by rw [h]; rfl
theorem finN {α : Type} {x : α} {b : Nat} (h : b ≠ 0) : fin b x = .inl b := if_neg h
/-- one far text: where it is refused -/
def Far (z : PySem.Str) (ln wd : Nat) : Prop := due (rowsS z) = some (ln, wd)
theorem far1 : Far (headZ ++ "tell " ++ repS "a" 9000) 3 2 := by
  unfold Far
  rw [due_far (l := ("tell" : PySem.Str).cps.toList ++ 32 :: List.replicate 9000 97) (by
    rw [app_list, app_list, repS_list, show ("a" : PySem.Str).cps.toList = [97] by decide +kernel, rep1, show ("tell " : PySem.Str).cps.toList = ("tell" : PySem.Str).cps.toList ++ [32] by decide +kernel, List.append_assoc, List.append_assoc]
    rfl), rowsL_one (by
      rw [List.mem_append, List.mem_cons]
      rintro (h | h | h)
      · exact absurd h (by decide +kernel)
      · cases h
      · exact mem_rep (by decide) h), words_cons _ ⟨by decide +kernel, by decide +kernel⟩, words_end ⟨by rw [show (9000 : Nat) = 8999 + 1 from rfl, List.replicate_succ]; exact List.cons_ne_nil _ _, mem_rep (by decide)⟩]
  rw [List.map_cons, mkS_of]
  exact dueG_no (b := 2) (by simp) ((tell_step (by decide) (by decide)).trans (by
    rw [List.map_cons, badAt, not_if (long_name (by rw [mkS_len, List.length_replicate]; decide))]
    rfl))
theorem far2 : Far (headZ ++ "round " ++ repS "1" 5000) 3 2 := by
  unfold Far
  rw [due_far (l := ("round" : PySem.Str).cps.toList ++ 32 :: List.replicate 5000 49) (by
    rw [app_list, app_list, repS_list, show ("1" : PySem.Str).cps.toList = [49] by decide +kernel, rep1, show ("round " : PySem.Str).cps.toList = ("round" : PySem.Str).cps.toList ++ [32] by decide +kernel, List.append_assoc, List.append_assoc]
    rfl), rowsL_one (by
      rw [List.mem_append, List.mem_cons]
      rintro (h | h | h)
      · exact absurd h (by decide +kernel)
      · cases h
      · exact mem_rep (by decide) h), words_cons _ ⟨by decide +kernel, by decide +kernel⟩, words_end ⟨by rw [show (5000 : Nat) = 4999 + 1 from rfl, List.replicate_succ]; exact List.cons_ne_nil _ _, mem_rep (by decide)⟩]
  rw [List.map_cons, mkS_of]
  exact dueG_no (b := 2) (by simp) ((rnd_step (by decide) (by decide) (by decide)).trans (by
    rw [List.map_cons, badAt, not_if (long_num (by rw [mkS_len, List.length_replicate]; decide))]
    rfl))
theorem far3 : Far (repS "w" 11000) 1 1 := by
  unfold Far
  rw [rowsS_L, repS_list, show ("w" : PySem.Str).cps.toList = [119] by decide +kernel, rep1, rowsL_one (mem_rep (by decide)), words_end ⟨by rw [show (11000 : Nat) = 10999 + 1 from rfl, List.replicate_succ]; exact List.cons_ne_nil _ _, mem_rep (by decide)⟩]
  refine due_first (x := mkS (List.replicate 11000 119)) (r := []) (T := []) rfl fun e => ?_
  have e2 := congrArg PySem.Str.length e
  rw [mkS_len, List.length_replicate] at e2
  exact absurd e2 (by decide +kernel)
theorem rep_lines (z : PySem.Str) (t : List Nat) (n : Nat) (b : List Nat) (h : z.cps.toList = t ++ [10]) : rowsL ((repS z n).cps.toList ++ b) = (List.replicate n (rowsL t)).flatten ++ rowsL b := by
  rw [repS_list, h, rowsL_rep]
theorem flat_one {α : Type} (x : α) : ∀ n, (List.replicate n [x]).flatten = List.replicate n x
  | 0 => rfl
  | n + 1 => by rw [List.replicate_succ, List.flatten_cons, flat_one x n, List.replicate_succ]; rfl
theorem far4 : Far (repS "\n" 5000 ++ "x") 5001 1 := by
  unfold Far
  rw [rowsS_L, app_list, rep_lines _ [] _ _ (by decide +kernel), rowsL_nil, flat_one, show rowsL ("x" : PySem.Str).cps.toList = ([["x"]] : List (List PySem.Str)) by decide +kernel]
  refine due_first (x := "x") (r := []) (T := []) ?_ (by decide +kernel)
  rw [numb_apps, numb_empty, List.length_replicate]
  rfl
theorem far5 : Far (repS " " 12000) 2 1 := by
  unfold Far
  rw [rowsS_L, repS_list, show (" " : PySem.Str).cps.toList = [32] by decide +kernel, rep1, rowsL_one (mem_rep (by decide)), words_rep0]
  exact due_empty rfl
theorem rep_all (z : PySem.Str) (t : List Nat) (n : Nat) (h : z.cps.toList = t ++ [10]) : rowsL (repS z n).cps.toList = (List.replicate n (rowsL t)).flatten ++ [[]] := by
  have := rep_lines z t n [] h
  rw [List.append_nil] at this
  exact this
theorem far6 : Far (repS "\n" 4000) 4002 1 := by
  unfold Far
  rw [rowsS_L, rep_all _ [] _ (by decide +kernel), rowsL_nil, flat_one]
  rw [due_empty (by rw [numb_apps, numb_empty]; rfl), List.length_append, List.length_replicate]
  rfl
theorem mem_flat {c : Nat} {l : List Nat} (h : c ∉ l) (n : Nat) : c ∉ (List.replicate n l).flatten := fun z => by
  obtain ⟨x, hx, hc⟩ := List.mem_flatten.mp z
  exact h (by rw [← List.eq_of_mem_replicate hx]; exact hc)
theorem far7 : Far (repS "in " 3000) 1 1 := by
  unfold Far
  have e : ("in " : PySem.Str).cps.toList = ("in" : PySem.Str).cps.toList ++ [32] := by decide +kernel
  rw [rowsS_L, repS_list, rowsL_one (mem_flat (by decide +kernel) _), e, show (3000 : Nat) = 2999 + 1 from rfl, List.replicate_succ, List.flatten_cons, List.append_assoc, List.singleton_append, words_cons _ ⟨by decide +kernel, by decide +kernel⟩, List.map_cons, mkS_of]
  exact due_first (x := "in") (T := []) rfl (by decide +kernel)
theorem far8 : Far (headZ ++ repS "round 0\n" 1000) 6 1 := by
  unfold Far
  rw [due_far (app_list _ _), rep_all _ ("round 0" : PySem.Str).cps.toList _ (by decide +kernel), show rowsL ("round 0" : PySem.Str).cps.toList = ([["round", "0"]] : List (List PySem.Str)) by decide +kernel, flat_one]
  generalize (List.replicate 1000 (["round", "0"] : List PySem.Str) ++ [[]]).length + 3 = N
  have st : ∀ {m : Nat} {S : List Bk}, m < 60 → S.length < 6 → rnds S < 3 → step 4 S m ["round", "0"] = .inr (.rnd :: S, m + 1) := fun h1 h2 h3 => (rnd_step h1 h2 h3).trans (fin_0 (by decide +kernel))
  rw [show (1000 : Nat) = 996 + 1 + 1 + 1 + 1 from rfl, List.replicate_succ, List.replicate_succ, List.replicate_succ, List.replicate_succ, List.cons_append, List.cons_append, List.cons_append, List.cons_append,
    dueG_ok (by simp) (st (by decide) (by decide) (by decide)), dueG_ok (by simp) (st (by decide) (by decide) (by decide)), dueG_ok (by simp) (st (by decide) (by decide) (by decide)), dueG_no (by simp) (rnd_more (by decide))]
theorem if_ok {m : Nat} {S : List Bk} (h1 : m < 60) (h2 : S.length < 6) : step 4 S m ["if", "x"] = .inr (.ifk :: S, m + 1) := (if_step h1 h2).trans (fin_0 (by decide +kernel))
theorem far9 : Far (headZ ++ repS "if x\n" 6 ++ repS "\n" 3000) 3010 1 := by
  unfold Far
  rw [due_far (l := (repS "if x\n" 6).cps.toList ++ (repS "\n" 3000).cps.toList) (by rw [app_list, app_list, List.append_assoc]), rep_lines _ ("if x" : PySem.Str).cps.toList _ _ (by decide +kernel), show rowsL ("if x" : PySem.Str).cps.toList = ([["if", "x"]] : List (List PySem.Str)) by decide +kernel, flat_one, rep_all _ [] _ (by decide +kernel), rowsL_nil, flat_one]
  rw [List.length_append, List.length_append, List.length_replicate, List.length_replicate]
  rw [show (6 : Nat) = 0 + 1 + 1 + 1 + 1 + 1 + 1 from rfl, List.replicate_succ, List.replicate_succ, List.replicate_succ, List.replicate_succ, List.replicate_succ, List.replicate_succ, List.cons_append, List.cons_append, List.cons_append, List.cons_append, List.cons_append, List.cons_append,
    dueG_ok (by simp) (if_ok (by decide) (by decide)), dueG_ok (by simp) (if_ok (by decide) (by decide)), dueG_ok (by simp) (if_ok (by decide) (by decide)), dueG_ok (by simp) (if_ok (by decide) (by decide)), dueG_ok (by simp) (if_ok (by decide) (by decide)), dueG_ok (by simp) (if_ok (by decide) (by decide)),
    List.replicate_zero, List.nil_append, numb_apps, numb_empty]
  rfl
theorem far10 : Far (headZ ++ repS "if x\n" 1000) 9 1 := by
  unfold Far
  rw [due_far (app_list _ _), rep_all _ ("if x" : PySem.Str).cps.toList _ (by decide +kernel), show rowsL ("if x" : PySem.Str).cps.toList = ([["if", "x"]] : List (List PySem.Str)) by decide +kernel, flat_one]
  generalize (List.replicate 1000 (["if", "x"] : List PySem.Str) ++ [[]]).length + 3 = N
  rw [show (1000 : Nat) = 993 + 1 + 1 + 1 + 1 + 1 + 1 + 1 from rfl, List.replicate_succ, List.replicate_succ, List.replicate_succ, List.replicate_succ, List.replicate_succ, List.replicate_succ, List.replicate_succ, List.cons_append, List.cons_append, List.cons_append, List.cons_append, List.cons_append, List.cons_append, List.cons_append,
    dueG_ok (by simp) (if_ok (by decide) (by decide)), dueG_ok (by simp) (if_ok (by decide) (by decide)), dueG_ok (by simp) (if_ok (by decide) (by decide)), dueG_ok (by simp) (if_ok (by decide) (by decide)), dueG_ok (by simp) (if_ok (by decide) (by decide)), dueG_ok (by simp) (if_ok (by decide) (by decide)),
    dueG_no (by simp) (over_step (by decide +kernel) (by decide +kernel) (by decide))]
theorem goods {v : Nat} {N k : Nat} {R : List (List PySem.Str)} {ws : List PySem.Str} (g : GoodL v ws) : ∀ (j m : Nat), m + j ≤ 60 → dueG v N [] m (numb k (List.replicate j ws ++ R)) = dueG v N [] (m + j) (numb (k + j) R) := fun j m hm => by
  have := blks (List.replicate j [ws]) (fun B hB => by rw [List.eq_of_mem_replicate hB]; exact g.blk) N m k R (by rw [List.length_replicate]; exact hm)
  rw [flat_one, List.length_replicate, List.length_replicate] at this
  exact this
theorem nm_x : Nm "x" := by unfold Nm; decide +kernel
theorem far11 : Far (headZ ++ repS "tell x\n" 1000) 63 1 := by
  unfold Far
  rw [due_far (app_list _ _), rep_all _ ("tell x" : PySem.Str).cps.toList _ (by decide +kernel), show rowsL ("tell x" : PySem.Str).cps.toList = ([["tell", "x"]] : List (List PySem.Str)) by decide +kernel, flat_one]
  generalize (List.replicate 1000 (["tell", "x"] : List PySem.Str) ++ [[]]).length + 3 = N
  rw [show (1000 : Nat) = 60 + (939 + 1) from rfl, ← List.replicate_append_replicate, List.append_assoc, goods (tell_good nm_x) 60 0 (by decide), List.replicate_succ, List.cons_append, dueG_no (by simp) (over_step (by decide +kernel) (by decide +kernel) (by decide))]
theorem words_z : ∀ n, words (List.replicate n (("z" : PySem.Str).cps.toList ++ [32])).flatten = List.replicate n ("z" : PySem.Str).cps.toList
  | 0 => rfl
  | n + 1 => by rw [List.replicate_succ, List.flatten_cons, List.append_assoc, List.singleton_append, words_cons _ ⟨by decide +kernel, by decide +kernel⟩, words_z n, List.replicate_succ]
theorem far12 : Far (headZ ++ "set x add y " ++ repS "z " 4000) 3 6 := by
  unfold Far
  have e : ("z " : PySem.Str).cps.toList = ("z" : PySem.Str).cps.toList ++ [32] := by decide +kernel
  have e2 : ("set x add y " : PySem.Str).cps.toList = ("set" : PySem.Str).cps.toList ++ 32 :: (("x" : PySem.Str).cps.toList ++ 32 :: (("add" : PySem.Str).cps.toList ++ 32 :: (("y" : PySem.Str).cps.toList ++ 32 :: []))) := by decide +kernel
  rw [due_far (l := ("set x add y " : PySem.Str).cps.toList ++ (repS "z " 4000).cps.toList) (by rw [app_list, app_list, List.append_assoc]), rowsL_one (by
      rw [List.mem_append]
      rintro (h | h)
      · exact absurd h (by decide +kernel)
      · rw [repS_list] at h
        exact mem_flat (by decide +kernel) _ h), repS_list, e, e2]
  rw [List.append_assoc, List.cons_append, List.append_assoc, List.cons_append, List.append_assoc, List.cons_append, List.append_assoc, List.cons_append, List.nil_append,
    words_cons _ ⟨by decide +kernel, by decide +kernel⟩, words_cons _ ⟨by decide +kernel, by decide +kernel⟩, words_cons _ ⟨by decide +kernel, by decide +kernel⟩, words_cons _ ⟨by decide +kernel, by decide +kernel⟩, words_z,
    show (4000 : Nat) = 3998 + 1 + 1 from rfl, List.replicate_succ, List.replicate_succ, List.map_cons, List.map_cons, List.map_cons, List.map_cons, List.map_cons, List.map_cons, mkS_of, mkS_of, mkS_of, mkS_of, mkS_of]
  exact dueG_no (b := 6) (by simp) ((set_step (by decide) (by decide)).trans (by
    generalize (List.replicate 3998 ("z" : PySem.Str).cps.toList).map mkS = T
    rw [show setS 4 ("x" :: "add" :: "y" :: "z" :: "z" :: T) = [.name, .expr, .name, .name] from rfl]
    rfl))
end K9

set_option Elab.async false
set_option linter.all false
set_option maxRecDepth 100000
set_option maxHeartbeats 800000
namespace K9
open PySem PySem.Spec PyProof.Rows L2 TL
theorem cut_to (xs : List V) (k : Nat) : cutV xs none (some (k : Int)) = xs.take k := by
  unfold cutV
  rw [HT.sIx_none, HT.sIx_nat, List.drop_zero, Nat.sub_zero]
  by_cases h : k ≤ xs.length
  · rw [Nat.min_eq_left h]
  · rw [Nat.min_eq_right (by omega), List.take_length, List.take_of_length_le (by omega)]
theorem cut_from (xs : List V) (k : Nat) : cutV xs (some (k : Int)) none = xs.drop k := by
  unfold cutV
  rw [HT.sIx_none, HT.sIx_nat]
  by_cases h : k ≤ xs.length
  · rw [Nat.min_eq_left h, List.take_of_length_le (by rw [List.length_drop]; exact Nat.le_refl _)]
  · rw [Nat.min_eq_right (by omega), List.drop_length, List.drop_of_length_le (by omega), List.take_nil]
/-! #### what an expression gives, old lists untouched -/
def Gv (Hb : Hp) (te : TE) (σ : L2.St) (R : V → Hp → Prop) : Prop := ∀ (H : Hp) (Q : VK), Kept None Hb H → (∀ v H', Kept None H H' → R v H' → Q v H') → te σ H Q
def Stb (R : V → Hp → Prop) : Prop := ∀ v H H', R v H → Kept None H H' → R v H'
def isLs (n : Nat) (R : V → Hp → Prop) : V → Hp → Prop := fun v H => ∃ p vs, v = .ref p ∧ H p = some (.lst vs) ∧ vs.length = n ∧ ∀ x ∈ vs, R x H
def isV (xs : List V) : V → Hp → Prop := fun v H => ∃ p, v = .ref p ∧ H p = some (.lst xs)
theorem isLs.stb {n : Nat} {R : V → Hp → Prop} (h : Stb R) : Stb (isLs n R) := fun v H H' ⟨p, vs, e, h1, h2, h3⟩ k => ⟨p, vs, e, k.lst h1 (fun z => z), h2, fun x hx => h _ _ _ (h3 x hx) k⟩
theorem isV.stb {xs : List V} : Stb (isV xs) := fun v H H' ⟨p, e, h1⟩ k => ⟨p, e, k.lst h1 (fun z => z)⟩
section
variable {Hb : Hp} {σ : L2.St} {ta tb : TE} {R : V → Hp → Prop} {K : PySem.W.Frag}
theorem Gv.var {i : Nat} {v : V} (h : σ[i]? = some (some v)) (r : R v Hb) (st : Stb R) : Gv Hb (tVar i) σ R := fun H Q k q => ⟨v, h, q v H Kept.refl (st _ _ _ r k)⟩
theorem Gv.weak {R' : V → Hp → Prop} (g : Gv Hb ta σ R) (h : ∀ v H, Kept None Hb H → R v H → R' v H) : Gv Hb ta σ R' := fun H Q k q => g H Q k fun v H' k1 r => q v H' k1 (h v H' (k.trans k1) r)
theorem Gv.cat {xs ys : List V} (ga : Gv Hb ta σ (isV xs)) (gb : Gv Hb tb σ (isV ys)) (hl : xs.length + ys.length ≤ sizeLine) : Gv Hb (tOp rCat ta tb) σ (isV (xs ++ ys)) := fun H Q k q =>
  ga H _ k fun v H1 k1 ⟨p, e, hp⟩ => gb H1 _ (k.trans k1) fun u H2 k2 ⟨p2, e2, hp2⟩ => ⟨p, p2, xs, ys, e, e2, k2.lst hp (fun z => z), hp2, hl, fun r hr => q (.ref r) _ ((k1.trans k2).trans (Kept.refl.new hr)) ⟨r, rfl, upd_same⟩⟩
theorem Gv.catR {n m : Nat} (ga : Gv Hb ta σ (isLs n R)) (gb : Gv Hb tb σ (isLs m R)) (st : Stb R) (hl : n + m ≤ sizeLine) : Gv Hb (tOp rCat ta tb) σ (isLs (n + m) R) := fun H Q k q =>
  ga H _ k fun v H1 k1 ⟨p, xs, e, hp, lx, rx⟩ => gb H1 _ (k.trans k1) fun u H2 k2 ⟨p2, ys, e2, hp2, ly, ry⟩ => ⟨p, p2, xs, ys, e, e2, k2.lst hp (fun z => z), hp2, by omega, fun r hr => q (.ref r) _ ((k1.trans k2).trans (Kept.refl.new hr))
    ⟨r, xs ++ ys, rfl, upd_same, by rw [List.length_append]; omega, fun x hx => st _ _ _ ((List.mem_append.mp hx).elim (fun h => st _ _ _ (rx x h) k2) (ry x)) (Kept.refl.new hr)⟩⟩
def Pt (tl : TO) (σ : L2.St) (lo : Option Int) : Prop := ∀ (H : Hp) (Q : Option Int → Hp → Prop), Q lo H → tl σ H Q
theorem Pt.none : Pt tNoPart σ none := fun _ _ q => q
theorem Pt.int {i : Int} : Pt (tPart (tC (.int i))) σ (some i) := fun _ _ q => ⟨i, rfl, q⟩
theorem Pt.var {i : Nat} {j : Int} (h : σ[i]? = some (some (.int j))) : Pt (tPart (tVar i)) σ (some j) := fun _ _ q => ⟨.int j, h, j, rfl, q⟩
theorem Pt.succ {i : Nat} {j : Int} (h : σ[i]? = some (some (.int j))) : Pt (tPart (tOp (rI0 fun i j => .int (i + j)) (tVar i) (tC (.int 1)))) σ (some (j + 1)) := fun _ _ q => ⟨.int j, h, j, 1, rfl, rfl, j + 1, rfl, q⟩
theorem Gv.slice {xs : List V} {tl th : TO} {lo hi : Option Int} (ga : Gv Hb ta σ (isV xs)) (pl : Pt tl σ lo) (ph : Pt th σ hi) : Gv Hb (tSl (rSlL K) ta tl th) σ (isV (cutV xs lo hi)) := fun H Q k q =>
  ga H _ k fun v H1 k1 ⟨p, e, hp⟩ => pl H1 _ (ph H1 _ ⟨p, xs, e, SqL.of hp, fun r hr => q (.ref r) _ (k1.trans (Kept.refl.new hr)) ⟨r, rfl, upd_same⟩⟩)
theorem Gv.rev {xs : List V} (ga : Gv Hb ta σ (isV xs)) : Gv Hb (tRevL K ta) σ (isV xs.reverse) := fun H Q k q =>
  ga H _ k fun v H1 k1 ⟨p, e, hp⟩ => ⟨p, xs, e, SqL.of hp, fun r hr => q (.ref r) _ (k1.trans (Kept.refl.new hr)) ⟨r, rfl, upd_same⟩⟩
/-- .. and its arguments -/
def Gs (Hb : Hp) (ta : TA) (σ : L2.St) (n : Nat) (R : V → Hp → Prop) : Prop := ∀ (H : Hp) (Q : List V → Hp → Prop), Kept None Hb H → (∀ vs H', Kept None H H' → vs.length = n → (∀ x ∈ vs, R x H') → Q vs H') → ta σ H Q
theorem Gs.nil : Gs Hb tNil σ 0 R := fun H Q _ q => q [] H Kept.refl rfl fun x hx => by cases hx
theorem Gs.cons {n : Nat} {t : TA} (g : Gv Hb ta σ R) (gs : Gs Hb t σ n R) (st : Stb R) : Gs Hb (tCons ta t) σ (n + 1) R := fun H Q k q =>
  g H _ k fun v H1 k1 r => gs H1 _ (k.trans k1) fun vs H2 k2 l rs => q (v :: vs) H2 (k1.trans k2) (by rw [List.length_cons, l]) fun x hx => (List.mem_cons.mp hx).elim (fun e => by rw [e]; exact st _ _ _ r k2) (rs x)
theorem Gv.lst {n : Nat} {t : TA} (gs : Gs Hb t σ n R) (st : Stb R) (hn : n ≤ sizeLine) : Gv Hb (tLst t) σ (isLs n R) := fun H Q k q =>
  gs H _ k fun vs H1 k1 l rs => ⟨by omega, fun p hp => q (.ref p) _ (k1.trans (Kept.refl.new hp)) ⟨p, vs, rfl, upd_same, l, fun x hx => st _ _ _ (rs x hx) (Kept.refl.new hp)⟩⟩
theorem Gv.ix {n : Nat} {tb : TE} {j : Nat} (ga : Gv Hb ta σ (isLs n R)) (gb : ∀ (H : Hp) (Q : VK), Q (.int (j : Int)) H → tb σ H Q) (hj : j < n) : Gv Hb (tOp (rIxL K) ta tb) σ R := fun H Q k q =>
  ga H _ k fun v H1 k1 ⟨p, xs, e, hp, lx, rx⟩ => gb H1 _ ⟨p, xs, j, xs[j]'(by omega), e, rfl, SqL.of hp, atI_nat (j := j) (List.getElem?_eq_getElem (by omega)), q _ H1 k1 (rx _ (List.getElem_mem (by omega)))⟩
end
section
variable {Hb H : Hp} {σ : L2.St} {ta tb te : TE} {R : V → Hp → Prop} {K : PySem.W.Frag} {Q : VK}
theorem after_set {i : Nat} {v : V} {g : TG} {u : TS} {D : Ends} (h : te (σ.set i (some v)) H fun x H1 => g x (σ.set i (some v)) H1 (u D)) : gName i v σ H (tSeq (tAsg te g) u D) := h
theorem after_ret {i : Nat} {v : V} {D : Ends} (h : te (σ.set i (some v)) H D.rt) : gName i v σ H (tRet te D) := h
theorem Gv.run (g : Gv Hb te σ R) (k : Kept None Hb H) (q : ∀ v H', Kept None H H' → R v H' → Q v H') : te σ H Q := g H Q k q
theorem Gv.varV {i : Nat} {p : Addr} {xs : List V} (h : σ[i]? = some (some (.ref p))) (e : Hb p = some (.lst xs)) : Gv Hb (tVar i) σ (isV xs) := Gv.var (R := isV xs) h ⟨p, rfl, e⟩ isV.stb
theorem cut1n (xs : List V) : cutV xs (some 1) none = xs.drop 1 := cut_from xs 1
theorem cut2n (xs : List V) : cutV xs (some 2) none = xs.drop 2 := cut_from xs 2
theorem cut1t (xs : List V) : cutV xs none (some 1) = xs.take 1 := cut_to xs 1
theorem cut2t (xs : List V) : cutV xs none (some 2) = xs.take 2 := cut_to xs 2
theorem seq_asg {g : TG} {u : TS} {D : Ends} (h : te σ H fun x H1 => g x σ H1 (u D)) : tSeq (tAsg te g) u D σ H := h
theorem Gs.run {n : Nat} {t : TA} (gs : Gs Hb t σ n R) (k : Kept None Hb H) (hn : n ≤ sizeLine) (q : ∀ vs H1, Kept None H H1 → vs.length = n → (∀ x ∈ vs, R x H1) → ∀ p, H1 p = none → Q (.ref p) (upd H1 p (.lst vs))) : tLst t σ H Q :=
  gs H _ k fun vs H1 k1 l rs => ⟨by omega, q vs H1 k1 l rs⟩
end
end K9

set_option Elab.async false
set_option linter.all false
set_option maxRecDepth 100000
set_option maxHeartbeats 800000
namespace K9
open PySem PySem.Spec PyProof.Rows L2 TL
/-! ### tuples of texts and numbers -/
def isT (vs : List V) : V → Hp → Prop := fun v H => ∃ a, v = .ref a ∧ H a = some (.tup vs)
theorem isT.stb {vs : List V} : Stb (isT vs) := fun v H H' ⟨a, e, h⟩ k => ⟨a, e, k.tup h fun z => z⟩
def Gc (te : TE) (σ : L2.St) (v : V) : Prop := ∀ (H : Hp) (Q : VK), Q v H → te σ H Q
def Gcs (t : TA) (σ : L2.St) (vs : List V) : Prop := ∀ (H : Hp) (Q : List V → Hp → Prop), Q vs H → t σ H Q
section
variable {Hb : Hp} {σ : L2.St} {ta tb : TE} {t : TA} {v : V} {vs : List V} {K : PySem.W.Frag}
theorem Gc.c : Gc (tC v) σ v := fun _ _ q => q
theorem Gc.var {i : Nat} (h : σ[i]? = some (some v)) : Gc (tVar i) σ v := fun _ _ q => ⟨v, h, q⟩
theorem Gc.add {a b : PySem.Str} (ga : Gc ta σ (.str a)) (gb : Gc tb σ (.str b)) (h : a.length + b.length ≤ sizeLine) :
    Gc (tOp (fun x y H Q => ∃ i j, x = .str i ∧ y = .str j ∧ i.length + j.length ≤ sizeLine ∧ Q (.str (i ++ j)) H) ta tb) σ (.str (a ++ b)) := fun H _ q => ga H _ (gb H _ ⟨a, b, rfl, rfl, h, q⟩)
theorem Gc.mul {z : PySem.Str} {n : Nat} (h1 : 2 ≤ n) (h2 : n ≤ 20000) (h3 : 1 ≤ z.length) (h4 : z.length ≤ 20) : Gc (tOp rMulS (tC (.str z)) (tC (.int (n : Int)))) σ (.str (repS z n)) := fun _ _ q =>
  ⟨z, n, rfl, rfl, h1, by omega, h3, Nat.le_trans (Nat.mul_le_mul h4 h2) (by decide), q⟩
theorem Gcs.nil : Gcs tNil σ [] := fun _ _ q => q
theorem Gcs.cons (g : Gc ta σ v) (gs : Gcs t σ vs) : Gcs (tCons ta t) σ (v :: vs) := fun H _ q => g H _ (gs H _ q)
theorem Gv.tup (gs : Gcs t σ vs) (h : vs.length ≤ sizeLine) : Gv Hb (tTup t) σ (isT vs) := fun H _ k q => gs H _ ⟨h, fun p hp => q (.ref p) _ (Kept.refl.new hp) ⟨p, rfl, upd_same⟩⟩
/-- a far text with what is due of it -/
def isFar : V → Hp → Prop := fun v H => ∃ (z : PySem.Str) (ln wd : Nat), isT [.str z, .int (ln : Int), .int (wd : Int)] v H ∧ Far z ln wd ∧ z.length ≤ 900000
theorem isFar.stb : Stb isFar := fun v H H' ⟨z, ln, wd, h, f⟩ k => ⟨z, ln, wd, isT.stb _ _ _ h k, f⟩
theorem Gv.far {z : PySem.Str} {ln wd : Nat} (gz : Gc ta σ (.str z)) (f : Far z ln wd) (hz : z.length ≤ 900000) : Gv Hb (tTup (tCons ta (tCons (tC (.int (ln : Int))) (tCons (tC (.int (wd : Int))) tNil)))) σ isFar :=
  (Gv.tup (Gcs.cons gz (Gcs.cons Gc.c (Gcs.cons Gc.c Gcs.nil))) (show 3 ≤ sizeLine by decide)).weak fun v H _ h => ⟨z, ln, wd, h, f, hz⟩
end
/-! ### the long text that is right -/
abbrev w4 : List PySem.Str := ["wide", dec 4]
abbrev inA : List PySem.Str := ["in", "a"]
def longZ : PySem.Str := repS "\n" 5000 ++ repS " " 5000 ++ "wide 4\n\n in a\n" ++ repS "\n" 900
theorem long_rows : rowsS longZ = List.replicate 5000 [] ++ (w4 :: [] :: inA :: List.replicate 901 []) := by
  unfold longZ
  rw [rowsS_L, app_list, app_list, app_list, List.append_assoc, List.append_assoc, rep_lines _ [] _ _ (by decide +kernel), rowsL_nil, flat_one, repS_list " ", show (" " : PySem.Str).cps.toList = [32] by decide +kernel, rep1,
    show ("wide 4\n\n in a\n" : PySem.Str).cps.toList = ("wide 4" : PySem.Str).cps.toList ++ 10 :: ([] ++ 10 :: ((" in a" : PySem.Str).cps.toList ++ 10 :: [])) by decide +kernel]
  rw [List.append_assoc, List.cons_append, List.append_assoc, List.cons_append, List.append_assoc, List.cons_append, List.nil_append, ← List.append_assoc, rowsL_cut, List.nil_append, rowsL_nl, rowsL_cut, rep_all _ [] _ (by decide +kernel), rowsL_nil, flat_one,
    rowsL_one (l := List.replicate 5000 32 ++ ("wide 4" : PySem.Str).cps.toList) (by
      rw [List.mem_append]
      rintro (h | h)
      · exact mem_rep (by decide) h
      · exact absurd h (by decide +kernel)), words_rep, show (words ("wide 4" : PySem.Str).cps.toList).map mkS = (w4 : List PySem.Str) by decide +kernel, show rowsL (" in a" : PySem.Str).cps.toList = ([inA] : List (List PySem.Str)) by decide +kernel,
    show (901 : Nat) = 900 + 1 from rfl, ← List.replicate_append_replicate]
  rfl
theorem nm_a : Nm "a" := by unfold Nm; decide +kernel
theorem long_numb : numb 1 (rowsS longZ) = [(5001, w4), (5003, inA)] := by
  rw [long_rows, numb_apps, numb_empty, List.length_replicate, List.nil_append, numb, if_neg (List.cons_ne_nil _ _), numb, if_pos rfl, numb, if_neg (List.cons_ne_nil _ _), numb_empty]
theorem long_due : due (rowsS longZ) = none := by
  have := due_head (v := 4) (xs := ["a"]) (R := []) (by decide) (by decide) (by decide) (fun x hx => by rw [List.mem_singleton.mp hx]; exact nm_a)
  unfold due at this ⊢
  rw [long_numb]
  rw [show numb 1 ((w4 : List PySem.Str) :: inA :: []) = [(1, w4), (2, inA)] by rw [numb, if_neg (List.cons_ne_nil _ _), numb, if_neg (List.cons_ne_nil _ _)]; rfl] at this
  have b1 : badHead "wide" [.num 1 12] w4 = 0 := by decide +kernel
  have b2 : badHead "in" (inS inA) inA = 0 := by decide +kernel
  rw [dueL, if_pos b1, dueR, if_pos b2]
  rfl
theorem ls_rep : ∀ (n : Nat) (A : List (List PySem.Str)), lsOf (List.replicate n [] ++ A) = lsOf A
  | 0, _ => rfl
  | n + 1, A => by
    rw [List.replicate_succ, List.cons_append]
    exact ls_rep n A
theorem long_lines : linesOf longZ = [w4, inA] := by
  rw [← lsOf_rows, long_rows, ls_rep]
  show w4 :: inA :: lsOf (List.replicate 901 []) = _
  have := ls_rep 901 []
  rw [List.append_nil] at this
  rw [this]
  rfl
theorem dec_inj : ∀ v, v < 13 → dec v = dec 4 → v = 4 := by decide +kernel
theorem pg_of {g : Pg} (fg : g.fine) (e : g.lines = [w4, inA]) : g = ⟨4, ["a"], .nil⟩ := by
  obtain ⟨v, xs, t⟩ := g
  obtain ⟨v1, v2, _⟩ := fg
  dsimp only at v1 v2
  unfold Pg.lines at e
  dsimp only at e
  obtain ⟨e1, e⟩ := List.cons.inj e
  obtain ⟨e2, e3⟩ := List.cons.inj e
  have h1 := dec_inj v (by omega) (List.cons.inj (List.cons.inj e1).2).1
  have h2 : xs = ([("a" : PySem.Str)] : List PySem.Str) := (List.cons.inj e2).2
  subst h1 h2
  cases t with
  | nil => rfl
  | _ => cases e3
end K9

set_option Elab.async false
set_option linter.all false
set_option maxRecDepth 100000
set_option maxHeartbeats 800000
namespace K9
open PySem PySem.Spec PyProof.Rows L2 TL
theorem shaped_ints (a b : Int) : SeqAt.shaped (.list [.int a, .int b]) = true := by
  unfold SeqAt.shaped
  simp only [PyData.canLay0, PyData.canLayAll0, PyData.depth, PyData.depthAll]
  rfl
theorem eqv_ints (a b : Int) : PyData.eqv (.list [.int a, .int b]) (.list [.int a, .int b]) = true := by
  simp [PyData.eqv, PyData.eqvAll]
theorem shaped_nil : SeqAt.shaped (.list []) = true := by decide +kernel
def StbL (R : V → Hp → Prop) : Prop := ∀ v H H' p xs, R v H → H p = some (.lst xs) → Kept (fun b => b = p) H H' → R v H'
theorem isT.stbL {vs : List V} : StbL (isT vs) := fun v H H' p xs ⟨a, e, h⟩ hp k => ⟨a, e, k.tup h fun z => by rw [z, hp] at h; cases h⟩
theorem isFar.stbL : StbL isFar := fun v H H' p xs ⟨z, ln, wd, h, f⟩ hp k => ⟨z, ln, wd, isT.stbL _ _ _ _ _ h hp k, f⟩
/-- .. and new -/
def isNw (Hb : Hp) (R : V → Hp → Prop) : V → Hp → Prop := fun v H => R v H ∧ ∃ p, v = .ref p ∧ Hb p = none
theorem Gv.catN {Hb : Hp} {σ : L2.St} {ta tb : TE} {R : V → Hp → Prop} {n m : Nat} (ga : Gv Hb ta σ (isLs n R)) (gb : Gv Hb tb σ (isLs m R)) (st : Stb R) (hl : n + m ≤ sizeLine) : Gv Hb (tOp rCat ta tb) σ (isNw Hb (isLs (n + m) R)) := fun H Q k q =>
  ga H _ k fun v H1 k1 ⟨p, xs, e, hp, lx, rx⟩ => gb H1 _ (k.trans k1) fun u H2 k2 ⟨p2, ys, e2, hp2, ly, ry⟩ => ⟨p, p2, xs, ys, e, e2, k2.lst hp (fun z => z), hp2, by omega, fun r hr => q (.ref r) _ ((k1.trans k2).trans (Kept.refl.new hr))
    ⟨⟨r, xs ++ ys, rfl, upd_same, by rw [List.length_append]; omega, fun x hx => st _ _ _ ((List.mem_append.mp hx).elim (fun h => st _ _ _ (rx x h) k2) (ry x)) (Kept.refl.new hr)⟩, r, rfl, (k.trans (k1.trans k2)).free hr⟩⟩
theorem Gv.lstN {Hb : Hp} {σ : L2.St} {R : V → Hp → Prop} {n : Nat} {t : TA} (gs : Gs Hb t σ n R) (st : Stb R) (hn : n ≤ sizeLine) : Gv Hb (tLst t) σ (isNw Hb (isLs n R)) := fun H Q k q =>
  gs H _ k fun vs H1 k1 l rs => ⟨by omega, fun p hp => q (.ref p) _ (k1.trans (Kept.refl.new hp)) ⟨⟨p, vs, rfl, upd_same, l, fun x hx => st _ _ _ (rs x hx) (Kept.refl.new hp)⟩, p, rfl, (k.trans k1).free hp⟩⟩
/-- a new list may change -/
theorem Kept.mine {H H1 H2 : Hp} {p : Addr} (k : Kept None H H1) (hp : H p = none) (k2 : Kept (fun b => b = p) H1 H2) : Kept None H H2 := fun b o e _ => ko_trans (k b o e (fun z => z)) fun u eu => k2 b u eu fun z => ne_of_none e hp z
/-- xs.append(e) as a statement -/
theorem seq_app {K : PySem.W.Frag} {i n : Nat} {te : TE} {u : TS} {D : Ends} {R : V → Hp → Prop} {σ : L2.St} {H Hb : Hp} {v : V} (hv : σ[i]? = some (some v)) (r : isLs n R v H) (g : Gv Hb te σ R) (st : Stb R) (stL : StbL R) (kp : Kept None Hb H) (hn : n < sizeLine)
    (q : ∀ p H', v = .ref p → Kept (fun b => b = p) H H' → isLs (n + 1) R v H' → u D σ H') : tSeq (tDrop (tBM K "list" rAppend (tVar i) (tCons te tNil))) u D σ H := by
  obtain ⟨p, xs, rfl, e, l, hx⟩ := r
  refine ⟨.ref p, hv, .inl ⟨rfl, xs, SqL.of e⟩, g H _ kp fun y H1 k1 ry => ?_⟩
  have e1 := k1.lst e fun z => z
  have k2 : Kept (fun b => b = p) H1 (upd H1 p (.lst (xs ++ [y]))) := Kept.refl.upd rfl
  refine ⟨p, xs, y, rfl, rfl, e1, by omega, ?_⟩
  refine q p _ rfl ((k1.weak fun _ z => z.elim).trans k2) ⟨p, xs ++ [y], rfl, upd_same, by rw [List.length_append]; show xs.length + 1 = n + 1; omega, fun x h => ?_⟩
  rcases List.mem_append.mp h with h | h
  · exact stL _ _ _ _ _ (st _ _ _ (hx x h) k1) e1 k2
  · rw [List.mem_singleton.mp h]; exact stL _ _ _ _ _ ry e1 k2
theorem long_len : longZ.length ≤ 900000 := by
  unfold longZ
  simp only [PySem.Str.length_append, repS_len]
  decide +kernel
theorem call_c {sp : Sp} {E : XK} {t : TA} {σ : L2.St} {H : Hp} {Q : VK} {vs : List V} (g : Gcs t σ vs) (h : sp vs H Q E) : tCall sp [] E t σ H Q := g H _ (by rw [List.append_nil]; exact h)
theorem after_any {i : Nat} {v : V} {σ : L2.St} {H : Hp} {Q : L2.St → Hp → Prop} (h : Q (σ.set i (some v)) H) : gName i v σ H Q := h
theorem after_drop {i : Nat} {v : V} {te : TE} {u : TS} {D : Ends} {σ : L2.St} {H : Hp} (h : tSeq (tDrop te) u D (σ.set i (some v)) H) : gName i v σ H (tSeq (tDrop te) u D) := h
abbrev sLLongRight : Stmt := top 48
theorem scLLongRight : FnScope ["head", "far", "found", "text", "line", "word"] [] (defScope sLLongRight) := ⟨rfl, rfl, rfl, by decide +kernel, rfl, by decide +kernel, by decide +kernel⟩
def spYes : Sp := fun vs H Q _ => vs = [] ∧ ∀ H', Kept None H H' → Q (.bl true) H'
section
variable {P : Program} {w : World} {K : PySem.W.Frag} {mg : PySem.Str → Option Value} {base : Heap} {f fS : Addr} {fd fdS : FuncData}
theorem ok_long (F : FnP K "_law_long_right" sLLongRight f fd) (GS : FnOk P w K mg base CX0 25 fS fdS ["text"] (spSaid K)) (bS : Binds K fdS ["text"] []) (kS : PySem.W.keepIn K (.ref fS) = true) (gS : mg "_law_said" = some (.ref fS)) : FnOk P w K mg base CX0 26 f fd [] spYes := by
  refine F.ok (k := 25) scLLongRight (fun vs H Q E h => ?_) (fun cdv A0 outer s H vs Q E hr h => ?_)
  · obtain ⟨rfl, _⟩ := h
    rfl
  · obtain ⟨rfl, q⟩ := h
    have hu := hu_of hr
    refine ⟨_, PSs.nox (pss_cons (ps_set (i := 0) scLLongRight.nd rfl (Or.inl rfl) pe_str)
    (pss_cons (ps_set (i := 1) scLLongRight.nd rfl (Or.inl rfl) (pe_lst (pa_cons (pe_tup (pa_cons (pe_op op_add_str (pe_op op_add_str (pv 0) pe_str) (pe_op op_mulS pe_str pe_int)) (pa_cons pe_int (pa_cons pe_int pa_nil)))) (pa_cons (pe_tup (pa_cons (pe_op op_add_str (pe_op op_add_str (pv 0) pe_str) (pe_op op_mulS pe_str pe_int)) (pa_cons pe_int (pa_cons pe_int pa_nil)))) (pa_cons (pe_tup (pa_cons (pe_op op_mulS pe_str pe_int) (pa_cons pe_int (pa_cons pe_int pa_nil)))) pa_nil)))))
    (pss_cons (ps_set (i := 1) scLLongRight.nd rfl (Or.inl rfl) (pe_op op_cat (pv 1) (pe_lst (pa_cons (pe_tup (pa_cons (pe_op op_add_str (pe_op op_mulS pe_str pe_int) pe_str) (pa_cons pe_int (pa_cons pe_int pa_nil)))) (pa_cons (pe_tup (pa_cons (pe_op op_mulS pe_str pe_int) (pa_cons pe_int (pa_cons pe_int pa_nil)))) (pa_cons (pe_tup (pa_cons (pe_op op_mulS pe_str pe_int) (pa_cons pe_int (pa_cons pe_int pa_nil)))) (pa_cons (pe_tup (pa_cons (pe_op op_mulS pe_str pe_int) (pa_cons pe_int (pa_cons pe_int pa_nil)))) pa_nil)))))))
    (pss_cons (ps_set (i := 1) scLLongRight.nd rfl (Or.inl rfl) (pe_op op_cat (pv 1) (pe_lst (pa_cons (pe_tup (pa_cons (pe_op op_add_str (pv 0) (pe_op op_mulS pe_str pe_int)) (pa_cons pe_int (pa_cons pe_int pa_nil)))) (pa_cons (pe_tup (pa_cons (pe_op op_add_str (pe_op op_add_str (pv 0) (pe_op op_mulS pe_str pe_int)) (pe_op op_mulS pe_str pe_int)) (pa_cons pe_int (pa_cons pe_int pa_nil)))) pa_nil)))))
    (pss_cons (ps_expr (pe_bm PySem.F.plainAttrs_list PySem.F.slot_list_append PySem.F.type_list_append mt_append (pv 1) (pa_cons (pe_tup (pa_cons (pe_op op_add_str (pv 0) (pe_op op_mulS pe_str pe_int)) (pa_cons pe_int (pa_cons pe_int pa_nil)))) pa_nil)))
    (pss_cons (ps_set (i := 1) scLLongRight.nd rfl (Or.inl rfl) (pe_op op_cat (pv 1) (pe_lst (pa_cons (pe_tup (pa_cons (pe_op op_add_str (pv 0) (pe_op op_mulS pe_str pe_int)) (pa_cons pe_int (pa_cons pe_int pa_nil)))) (pa_cons (pe_tup (pa_cons (pe_op op_add_str (pe_op op_add_str (pv 0) pe_str) (pe_op op_mulS pe_str pe_int)) (pa_cons pe_int (pa_cons pe_int pa_nil)))) pa_nil)))))
    (pss_cons (ps_if (pt_cmpR (op_neD hr.units) (pe_lc (own := [("text", 3), ("line", 4), ("word", 5)]) (g := gTup K 3 (gCons (gName 3) (gCons (gName 4) (gCons (gName 5) gNil)))) (tt := tTest (tOp (rNeD K) (tCall (spSaid K) [] E0 (tCons (tVar 3) tNil)) (tLst (tCons (tVar 4) (tCons (tVar 5) tNil))))) (te := tVar 3) rfl scLLongRight.nd (pi_list (pv 1)) (blkOk_by (own := [("text", 3), ("line", 4), ("word", 5)]) (N := ["head", "far", "found", "text", "line", "word"]) (sc := defScope sLLongRight) (by decide +kernel)) (by exact (fun _ _ _ _ _ => (pg_tup rfl (pgs_cons (pg_name (i := 3) scLLongRight.nd rfl (Or.inl rfl)) (pgs_cons (pg_name (i := 4) scLLongRight.nd rfl (Or.inl rfl)) (pgs_cons (pg_name (i := 5) scLLongRight.nd rfl (Or.inl rfl)) pgs_nil)))))) (by exact (fun _ _ _ _ _ => (pts_one (pt_cmpR (op_neD hr.units) (pe_call GS hr (by rfl) gS kS bS .nil pass0 (pa_cons (pv 3) pa_nil)) (pe_lst (pa_cons (pv 4) (pa_cons (pv 5) pa_nil))) (nomark _))))) (by exact (fun _ _ _ _ _ => (pv 3)))) (pe_lst pa_nil) (nomark _))
      (pss_one (ps_ret pe_bl))
      pss_nil)
    (pss_cons (ps_set (i := 2) scLLongRight.nd rfl (Or.inl rfl) (pe_call GS hr (by rfl) gS kS bS .nil pass0 (pa_cons (pe_op op_add_str (pe_op op_add_str (pe_op op_add_str (pe_op op_mulS pe_str pe_int) (pe_op op_mulS pe_str pe_int)) pe_str) (pe_op op_mulS pe_str pe_int)) pa_nil)))
    (pss_one (ps_ret (pe_cmpR (op_eqD hr.units) (pv 2) (pe_tup (pa_cons pe_int (pa_cons (pe_tup (pa_cons pe_str pa_nil)) (pa_cons (pe_tup pa_nil) pa_nil)))) (nomark _)))))))))))), ?_⟩
    have szl := sizeLine_eq
    refine seq_asg ?_
    refine after_set (v := .str headZ) ?_
    refine Gv.run (R := isLs 3 isFar) (Hb := H) (Gv.lst (Gs.cons (Gv.far (Gc.add (Gc.add (Gc.var rfl) Gc.c (by first | (simp only [PySem.Str.length_append, repS_len]; decide +kernel) | decide +kernel)) (Gc.mul (n := 9000) (by decide) (by decide) (by decide +kernel) (by decide +kernel)) (by first | (simp only [PySem.Str.length_append, repS_len]; decide +kernel) | decide +kernel)) far1 (by first | (simp only [PySem.Str.length_append, repS_len]; decide +kernel) | decide +kernel))
      (Gs.cons (Gv.far (Gc.add (Gc.add (Gc.var rfl) Gc.c (by first | (simp only [PySem.Str.length_append, repS_len]; decide +kernel) | decide +kernel)) (Gc.mul (n := 5000) (by decide) (by decide) (by decide +kernel) (by decide +kernel)) (by first | (simp only [PySem.Str.length_append, repS_len]; decide +kernel) | decide +kernel)) far2 (by first | (simp only [PySem.Str.length_append, repS_len]; decide +kernel) | decide +kernel))
      (Gs.cons (Gv.far (Gc.mul (n := 11000) (by decide) (by decide) (by decide +kernel) (by decide +kernel)) far3 (by first | (simp only [PySem.Str.length_append, repS_len]; decide +kernel) | decide +kernel)) Gs.nil isFar.stb) isFar.stb) isFar.stb) isFar.stb (by decide)) Kept.refl (fun v1 H1 k1 r1 => ?_)
    refine after_set (v := v1) ?_
    refine Gv.run (R := isLs (3 + 4) isFar) (Hb := H1) (Gv.catR (Gv.var (R := isLs 3 isFar) (v := v1) rfl r1 (isLs.stb isFar.stb)) (Gv.lst (Gs.cons (Gv.far (Gc.add (Gc.mul (n := 5000) (by decide) (by decide) (by decide +kernel) (by decide +kernel)) Gc.c (by first | (simp only [PySem.Str.length_append, repS_len]; decide +kernel) | decide +kernel)) far4 (by first | (simp only [PySem.Str.length_append, repS_len]; decide +kernel) | decide +kernel))
      (Gs.cons (Gv.far (Gc.mul (n := 12000) (by decide) (by decide) (by decide +kernel) (by decide +kernel)) far5 (by first | (simp only [PySem.Str.length_append, repS_len]; decide +kernel) | decide +kernel))
      (Gs.cons (Gv.far (Gc.mul (n := 4000) (by decide) (by decide) (by decide +kernel) (by decide +kernel)) far6 (by first | (simp only [PySem.Str.length_append, repS_len]; decide +kernel) | decide +kernel))
      (Gs.cons (Gv.far (Gc.mul (n := 3000) (by decide) (by decide) (by decide +kernel) (by decide +kernel)) far7 (by first | (simp only [PySem.Str.length_append, repS_len]; decide +kernel) | decide +kernel)) Gs.nil isFar.stb) isFar.stb) isFar.stb) isFar.stb) isFar.stb (by decide)) isFar.stb (by decide)) Kept.refl (fun v2 H2 k2 r2 => ?_)
    refine after_set (v := v2) ?_
    refine Gv.run (R := isNw H2 (isLs (3 + 4 + 2) isFar)) (Hb := H2) (Gv.catN (Gv.var (R := isLs (3 + 4) isFar) (v := v2) rfl r2 (isLs.stb isFar.stb)) (Gv.lst (Gs.cons (Gv.far (Gc.add (Gc.var rfl) (Gc.mul (n := 1000) (by decide) (by decide) (by decide +kernel) (by decide +kernel)) (by first | (simp only [PySem.Str.length_append, repS_len]; decide +kernel) | decide +kernel)) far8 (by first | (simp only [PySem.Str.length_append, repS_len]; decide +kernel) | decide +kernel))
      (Gs.cons (Gv.far (Gc.add (Gc.add (Gc.var rfl) (Gc.mul (n := 6) (by decide) (by decide) (by decide +kernel) (by decide +kernel)) (by first | (simp only [PySem.Str.length_append, repS_len]; decide +kernel) | decide +kernel)) (Gc.mul (n := 3000) (by decide) (by decide) (by decide +kernel) (by decide +kernel)) (by first | (simp only [PySem.Str.length_append, repS_len]; decide +kernel) | decide +kernel)) far9 (by first | (simp only [PySem.Str.length_append, repS_len]; decide +kernel) | decide +kernel)) Gs.nil isFar.stb) isFar.stb) isFar.stb (by decide)) isFar.stb (by decide)) Kept.refl (fun v3 H3 k3 r3n => ?_)
    obtain ⟨r3, p3, e3, n3⟩ := r3n
    refine after_drop (v := v3) ?_
    refine seq_app (R := isFar) (v := v3) (Hb := H3) rfl r3 (Gv.far (Gc.add (Gc.var rfl) (Gc.mul (n := 1000) (by decide) (by decide) (by decide +kernel) (by decide +kernel)) (by first | (simp only [PySem.Str.length_append, repS_len]; decide +kernel) | decide +kernel)) far10 (by first | (simp only [PySem.Str.length_append, repS_len]; decide +kernel) | decide +kernel)) isFar.stb isFar.stbL Kept.refl (by decide) (fun p3' H4 e3' k4 r4 => ?_)
    cases e3.symm.trans e3'
    have k02 := k1.trans k2
    have k4' : Kept None H H4 := Kept.mine (k02.trans k3) (k02.free n3) k4
    refine seq_asg ?_
    refine Gv.run (R := isLs (3 + 4 + 2 + 1 + 2) isFar) (Hb := H4) (Gv.catR (Gv.var (R := isLs (3 + 4 + 2 + 1) isFar) (v := v3) rfl r4 (isLs.stb isFar.stb)) (Gv.lst (Gs.cons (Gv.far (Gc.add (Gc.var rfl) (Gc.mul (n := 1000) (by decide) (by decide) (by decide +kernel) (by decide +kernel)) (by first | (simp only [PySem.Str.length_append, repS_len]; decide +kernel) | decide +kernel)) far11 (by first | (simp only [PySem.Str.length_append, repS_len]; decide +kernel) | decide +kernel))
      (Gs.cons (Gv.far (Gc.add (Gc.add (Gc.var rfl) Gc.c (by first | (simp only [PySem.Str.length_append, repS_len]; decide +kernel) | decide +kernel)) (Gc.mul (n := 4000) (by decide) (by decide) (by decide +kernel) (by decide +kernel)) (by first | (simp only [PySem.Str.length_append, repS_len]; decide +kernel) | decide +kernel)) far12 (by first | (simp only [PySem.Str.length_append, repS_len]; decide +kernel) | decide +kernel)) Gs.nil isFar.stb) isFar.stb) isFar.stb (by decide)) isFar.stb (by decide)) Kept.refl (fun v5 H5 k5 r5 => ?_)
    refine after_any (v := v5) ?_
    obtain ⟨A, xs, rfl, eA, lA, rA⟩ := r5
    refine ⟨.ref A, rfl, A, rfl, ⟨_, SqL.of eA⟩, fun D hD => ?_⟩
    refine lc_list (K := K) (a := A) (xs := xs) (fun i H' => Kept None H5 H' ∧ H' D = some (.lst [])) ⟨Kept.refl.new hD, upd_same⟩ (fun i H' _ h => SqL.of (h.1.lst eA (fun z => z))) (fun i x H6 hx h => ?_) (fun H6 h => ?_)
    · obtain ⟨k6, e6⟩ := h
      obtain ⟨z, ln, wd, ⟨a, rfl, ea⟩, fz, hz⟩ := rA x (List.mem_of_getElem? hx)
      have ea6 := k6.tup ea fun z => z
      refine ⟨a, _, rfl, SqT.of ea6, rfl, ?_⟩
      refine ⟨_, _, rfl, _, _, rfl, _, _, rfl, rfl, rfl, ?_⟩
      refine ⟨.str z, rfl, .str z, "str", rfl, .str _, fun h => absurd rfl h, fun z' hz' => ?_⟩
      cases hz'
      refine ⟨hz, fun ln' wd' p7 H7 du k7 e7 => ?_, fun p g H7 du _ _ _ _ => by rw [fz] at du; cases du⟩
      rw [fz] at du
      cases du
      refine ⟨.int (ln : Int), rfl, .int (wd : Int), rfl, (show 2 ≤ sizeLine by decide), fun p8 hp8 => ?_⟩
      have k8 : Kept None H7 (upd H7 p8 (.lst [.int (ln : Int), .int (wd : Int)])) := Kept.refl.new hp8
      have e8 : upd H7 p8 (.lst [.int (ln : Int), .int (wd : Int)]) p8 = some (.lst [.int (ln : Int), .int (wd : Int)]) := upd_same
      have e78 := k8.lst e7 fun z => z
      have e68 := k8.lst (k7.lst e6 fun z => z) fun z => z
      generalize upd H7 p8 (.lst [.int (ln : Int), .int (wd : Int)]) = H8 at k8 e8 e78 e68 ⊢
      refine ⟨.list [.int (ln : Int), .int (wd : Int)], .list [.int (ln : Int), .int (wd : Int)], .lst (SqL.of e78) (.cons (.int _) (.cons (.int _) .nil)), .lst (SqL.of e8) (.cons (.int _) (.cons (.int _) .nil)), shaped_ints _ _, shaped_ints _ _, _, rfl, ?_⟩
      rw [eqv_ints]
      exact iteF ⟨(k6.trans k7).trans k8, e68⟩
    · obtain ⟨k6, e6⟩ := h
      refine ⟨(show 0 ≤ sizeLine by decide), fun n0 hn0 => ?_⟩
      have kn : Kept None H6 (upd H6 n0 (.lst [])) := Kept.refl.new hn0
      have en0 : upd H6 n0 (.lst []) n0 = some (.lst []) := upd_same
      have e6' := kn.lst e6 fun z => z
      generalize upd H6 n0 (.lst []) = H7 at kn en0 e6' ⊢
      refine ⟨.list [], .list [], .lst (SqL.of e6') .nil, .lst (SqL.of en0) .nil, shaped_nil, shaped_nil, _, rfl, iteF ?_⟩
      have kk : Kept None H H7 := ((k4'.trans k5).trans k6).trans kn
      unfold tNext
      dsimp only
      refine seq_asg ?_
      refine call_c (Gcs.cons (Gc.add (Gc.add (Gc.add (Gc.mul (z := "\n") (n := 5000) (by decide) (by decide) (by decide +kernel) (by decide +kernel)) (Gc.mul (z := " ") (n := 5000) (by decide) (by decide) (by decide +kernel) (by decide +kernel)) (by first | (simp only [PySem.Str.length_append, repS_len]; decide +kernel) | decide +kernel)) (Gc.c (v := .str "wide 4\n\n in a\n")) (by first | (simp only [PySem.Str.length_append, repS_len]; decide +kernel) | decide +kernel)) (Gc.mul (z := "\n") (n := 900) (by decide) (by decide) (by decide +kernel) (by decide +kernel)) (by first | (simp only [PySem.Str.length_append, repS_len]; decide +kernel) | decide +kernel)) Gcs.nil) ?_
      refine (?_ : spSaid K [.str longZ] H7 _ _)
      obtain ⟨z0, hz0, d0, l0, len0⟩ : ∃ z0, z0 = longZ ∧ due (rowsS z0) = none ∧ linesOf z0 = [w4, inA] ∧ z0.length ≤ 900000 := ⟨longZ, rfl, long_due, long_lines, long_len⟩
      rw [← hz0]
      clear hz0
      refine ⟨.str z0, "str", rfl, .str _, fun h => absurd rfl h, fun z' hz' => ?_⟩
      cases hz'
      refine ⟨len0, fun ln' wd' p8 H8 du _ _ => (by rw [d0] at du; cases du), fun p g H8 du k8 pg fg hl => ?_⟩
      rw [l0] at hl
      have eg := pg_of fg hl.symm
      subst eg
      obtain ⟨q1, q2, rs, hp, h1, h2, it⟩ := pg
      cases it
      refine after_any ?_
      refine ⟨.ref p, rfl, (show 1 ≤ sizeLine by decide), fun t1 ht1 => ?_⟩
      have m1 : Kept None H8 (upd H8 t1 (.tup [.str "a"])) := Kept.refl.new ht1
      have f1 : upd H8 t1 (.tup [.str "a"]) t1 = some (.tup [.str "a"]) := upd_same
      generalize upd H8 t1 (.tup [.str "a"]) = H9 at m1 f1 ⊢
      refine ⟨(show 0 ≤ sizeLine by decide), fun t2 ht2 => ?_⟩
      have m2 : Kept None H9 (upd H9 t2 (.tup [])) := Kept.refl.new ht2
      have f2 : upd H9 t2 (.tup []) t2 = some (.tup []) := upd_same
      generalize upd H9 t2 (.tup []) = H10 at m2 f2 ⊢
      refine ⟨(show 3 ≤ sizeLine by decide), fun t3 ht3 => ?_⟩
      have m3 : Kept None H10 (upd H10 t3 (.tup [.int 4, .ref t1, .ref t2])) := Kept.refl.new ht3
      have f3 : upd H10 t3 (.tup [.int 4, .ref t1, .ref t2]) t3 = some (.tup [.int 4, .ref t1, .ref t2]) := upd_same
      generalize upd H10 t3 (.tup [.int 4, .ref t1, .ref t2]) = H11 at m3 f3 ⊢
      have mm := (m1.trans m2).trans m3
      have f1' := (m2.trans m3).tup f1 fun z => z
      have f2' := m3.tup f2 fun z => z
      have hp' := mm.tup hp fun z => z
      have h1' := mm.tup h1 fun z => z
      have h2' := mm.tup h2 fun z => z
      refine ⟨.tuple [.int 4, .tuple [.str "a"], .tuple []], .tuple [.int 4, .tuple [.str "a"], .tuple []], .tup (SqT.of hp') (.cons (.int _) (.cons (.tup (SqT.of h1') (.cons (.str _) .nil)) (.cons (.tup (SqT.of h2') .nil) .nil))),
        .tup (SqT.of f3) (.cons (.int _) (.cons (.tup (SqT.of f1') (.cons (.str _) .nil)) (.cons (.tup (SqT.of f2') .nil) .nil))), by decide +kernel, by decide +kernel, ?_⟩
      rw [show PyData.eqv (.tuple [.int 4, .tuple [.str "a"], .tuple []]) (.tuple [.int 4, .tuple [.str "a"], .tuple []]) = true by decide +kernel]
      exact q _ ((kk.trans k8).trans mm)
end
end K9

set_option Elab.async false
set_option linter.all false
set_option maxRecDepth 100000
set_option maxHeartbeats 800000
namespace K9
open PySem PySem.Spec PyProof.Rows L2 TL
/-! ### heads -/
def Hd (g b : PySem.Str) (ln wd : Nat) : Prop := due (rowsS g) = none ∧ Far b ln wd ∧ g.length ≤ 900000 ∧ b.length ≤ 900000
def isHd : V → Hp → Prop := fun v H => ∃ (g b : PySem.Str) (ln wd : Nat), isT [.str g, .str b, .int (ln : Int), .int (wd : Int)] v H ∧ Hd g b ln wd
theorem isHd.stb : Stb isHd := fun v H H' ⟨g, b, ln, wd, h, f⟩ k => ⟨g, b, ln, wd, isT.stb _ _ _ h k, f⟩
theorem isHd.stbL : StbL isHd := fun v H H' p xs ⟨g, b, ln, wd, h, f⟩ hp k => ⟨g, b, ln, wd, isT.stbL _ _ _ _ _ h hp k, f⟩
def hdB (g b : PySem.Str) (ln wd : Nat) : Bool := decide (due (rowsS g) = none) && decide (due (rowsS b) = some (ln, wd)) && decide (g.length ≤ 900000) && decide (b.length ≤ 900000)
theorem hd_of {g b : PySem.Str} {ln wd : Nat} (h : hdB g b ln wd = true) : Hd g b ln wd := by
  unfold hdB at h
  simp only [Bool.and_eq_true, decide_eq_true_eq] at h
  exact ⟨h.1.1.1, h.1.1.2, h.1.2, h.2⟩
theorem Gv.hd {Hb : Hp} {σ : L2.St} (g b : PySem.Str) (ln wd : Nat) (h : Hd g b ln wd) : Gv Hb (tTup (tCons (tC (.str g)) (tCons (tC (.str b)) (tCons (tC (.int (ln : Int))) (tCons (tC (.int (wd : Int))) tNil))))) σ isHd :=
  (Gv.tup (Gcs.cons Gc.c (Gcs.cons Gc.c (Gcs.cons Gc.c (Gcs.cons Gc.c Gcs.nil)))) (show 4 ≤ sizeLine by decide)).weak fun v H _ t => ⟨g, b, ln, wd, t, h⟩
abbrev sLHeadsRight : Stmt := top 45
theorem scLHeadsRight : FnScope ["some", "good", "bad", "line", "word"] [] (defScope sLHeadsRight) := ⟨rfl, rfl, rfl, by decide +kernel, rfl, by decide +kernel, by decide +kernel⟩
section
variable {P : Program} {w : World} {K : PySem.W.Frag} {mg : PySem.Str → Option Value} {base : Heap} {f fS : Addr} {fd fdS : FuncData}
/-- `not isinstance(_law_said(z), tuple)` and what follows -/
theorem said_good {z : PySem.Str} {H : Hp} {Q : VK} {E : XK} (d : due (rowsS z) = none) (hz : z.length ≤ 900000) (q : ∀ p g H', Kept None H H' → PgAt H' p g → g.fine → linesOf z = g.lines → Q (.ref p) H') : spSaid K [.str z] H Q E :=
  ⟨.str z, "str", rfl, .str _, fun h => absurd rfl h, fun z' hz' => by
    cases hz'
    exact ⟨hz, fun ln wd p H' du _ _ => (by rw [d] at du; cases du), fun p g H' _ k pg fg hl => q p g H' k pg fg hl⟩⟩
theorem said_bad {z : PySem.Str} {ln wd : Nat} {H : Hp} {Q : VK} {E : XK} (d : Far z ln wd) (hz : z.length ≤ 900000) (q : ∀ p H', Kept None H H' → H' p = some (.lst [.int (ln : Int), .int (wd : Int)]) → Q (.ref p) H') : spSaid K [.str z] H Q E :=
  ⟨.str z, "str", rfl, .str _, fun h => absurd rfl h, fun z' hz' => by
    cases hz'
    unfold Far at d
    refine ⟨hz, fun ln' wd' p H' du k e => ?_, fun p g H' du _ _ _ _ => (by rw [d] at du; cases du)⟩
    rw [d] at du
    cases du
    exact q p H' k e⟩
def isC (v0 : V) : V → Hp → Prop := fun v _ => v = v0
theorem Gc.gv {Hb : Hp} {te : TE} {σ : L2.St} {v : V} (g : Gc te σ v) : Gv Hb te σ (isC v) := fun H _ _ q => g H _ (q v H Kept.refl rfl)
abbrev tSaid (K : PySem.W.Frag) (te : TE) : TE := tCall (spSaid K) [] E0 (tCons te tNil)
theorem call_g {sp : Sp} {te : TE} {v : V} {Hb H : Hp} {σ : L2.St} {Q : VK} (gz : Gv Hb te σ (isC v)) (kp : Kept None Hb H) (h : ∀ H1, Kept None H H1 → sp [v] H1 Q E0) : tCall sp [] E0 (tCons te tNil) σ H Q := gz H _ kp fun v' H1 k1 e => by
  cases e
  exact h H1 k1
abbrev tInst (te : TE) : TE := tCB RZ.rIsTy (tCons te (tCons (tC (.ty "tuple")) tNil))
theorem inst_good {te : TE} {z : PySem.Str} {Hb H : Hp} {σ : L2.St} {Q : VK} (gz : Gv Hb te σ (isC (.str z))) (kp : Kept None Hb H) (d : due (rowsS z) = none) (hz : z.length ≤ 900000) (q : ∀ H', Kept None H H' → Q (.bl true) H') : tInst (tSaid K te) σ H Q :=
  call_g gz kp fun H1 k1 => said_good d hz fun p g H' k pg fg hl => by
    obtain ⟨q1, q2, rs, hp, h1, h2, it⟩ := pg
    exact ⟨.ref p, "tuple", rfl, .tup hp, q H' (k1.trans k)⟩
theorem two_eq {a b : Addr} {x y : Int} {H : Hp} (h1 : H a = some (.lst [.int x, .int y])) (h2 : H b = some (.lst [.int x, .int y])) : Dp K H (.ref a) (.list [.int x, .int y]) ∧ Dp K H (.ref b) (.list [.int x, .int y]) :=
  ⟨.lst (SqL.of h1) (.cons (.int _) (.cons (.int _) .nil)), .lst (SqL.of h2) (.cons (.int _) (.cons (.int _) .nil))⟩
theorem neq_bad {te tl : TE} {z : PySem.Str} {ln wd : Nat} {Hb H : Hp} {σ : L2.St} {Q : VK} (gz : Gv Hb te σ (isC (.str z))) (gl : Gv Hb tl σ (isV [.int (ln : Int), .int (wd : Int)])) (kp : Kept None Hb H) (d : Far z ln wd) (hz : z.length ≤ 900000) (q : ∀ H', Kept None H H' → Q (.bl false) H') : tOp (rNeD K) (tSaid K te) tl σ H Q :=
  call_g gz kp fun H1 k1 => said_bad d hz fun p H2 k2 e2 => gl H2 _ ((kp.trans k1).trans k2) fun v3 H3 k3 ⟨p3, e3, h3⟩ => by
    subst e3
    obtain ⟨d1, d2⟩ := two_eq (K := K) (k3.lst e2 fun z => z) h3
    refine ⟨_, _, d1, d2, shaped_ints _ _, shaped_ints _ _, ?_⟩
    rw [eqv_ints]
    exact q H3 ((k1.trans k2).trans k3)
theorem eq_bad {te tl : TE} {z : PySem.Str} {ln wd : Nat} {Hb H : Hp} {σ : L2.St} {Q : VK} (gz : Gv Hb te σ (isC (.str z))) (gl : Gv Hb tl σ (isV [.int (ln : Int), .int (wd : Int)])) (kp : Kept None Hb H) (d : Far z ln wd) (hz : z.length ≤ 900000) (q : ∀ H', Kept None H H' → Q (.bl true) H') : tOp (rEqD K) (tSaid K te) tl σ H Q :=
  call_g gz kp fun H1 k1 => said_bad d hz fun p H2 k2 e2 => gl H2 _ ((kp.trans k1).trans k2) fun v3 H3 k3 ⟨p3, e3, h3⟩ => by
    subst e3
    obtain ⟨d1, d2⟩ := two_eq (K := K) (k3.lst e2 fun z => z) h3
    refine ⟨_, _, d1, d2, shaped_ints _ _, shaped_ints _ _, ?_⟩
    rw [eqv_ints]
    exact q H3 ((k1.trans k2).trans k3)
theorem Gv.two {Hb : Hp} {σ : L2.St} {ta tb : TE} {x y : V} (ga : Gc ta σ x) (gb : Gc tb σ y) : Gv Hb (tLst (tCons ta (tCons tb tNil))) σ (isV [x, y]) := fun H _ _ q => ga H _ (gb H _ ⟨(show 2 ≤ sizeLine by decide), fun p hp => q (.ref p) _ (Kept.refl.new hp) ⟨p, rfl, upd_same⟩⟩)
theorem ok_heads (F : FnP K "_law_heads_right" sLHeadsRight f fd) (GS : FnOk P w K mg base CX0 25 fS fdS ["text"] (spSaid K)) (bS : Binds K fdS ["text"] []) (kS : PySem.W.keepIn K (.ref fS) = true) (gS : mg "_law_said" = some (.ref fS)) (m_isinstance : mg "isinstance" = none) (m_tuple : mg "tuple" = none) : FnOk P w K mg base CX0 26 f fd [] spYes := by
  refine F.ok (k := 25) scLHeadsRight (fun vs H Q E h => ?_) (fun cdv A0 outer s H vs Q E hr h => ?_)
  · obtain ⟨rfl, _⟩ := h
    rfl
  · obtain ⟨rfl, q⟩ := h
    have hu := hu_of hr
    refine ⟨_, PSs.nox (pss_cons (ps_set (i := 0) scLHeadsRight.nd rfl (Or.inl rfl) (pe_lst (pa_cons (pe_tup (pa_cons pe_str (pa_cons pe_str (pa_cons pe_int (pa_cons pe_int pa_nil))))) (pa_cons (pe_tup (pa_cons pe_str (pa_cons pe_str (pa_cons pe_int (pa_cons pe_int pa_nil))))) (pa_cons (pe_tup (pa_cons pe_str (pa_cons pe_str (pa_cons pe_int (pa_cons pe_int pa_nil))))) pa_nil)))))
    (pss_cons (ps_expr (pe_bm PySem.F.plainAttrs_list PySem.F.slot_list_append PySem.F.type_list_append mt_append (pv 0) (pa_cons (pe_tup (pa_cons pe_str (pa_cons pe_str (pa_cons pe_int (pa_cons pe_int pa_nil))))) pa_nil)))
    (pss_cons (ps_expr (pe_bm PySem.F.plainAttrs_list PySem.F.slot_list_append PySem.F.type_list_append mt_append (pv 0) (pa_cons (pe_tup (pa_cons pe_str (pa_cons pe_str (pa_cons pe_int (pa_cons pe_int pa_nil))))) pa_nil)))
    (pss_cons (ps_set (i := 0) scLHeadsRight.nd rfl (Or.inl rfl) (pe_op op_cat (pv 0) (pe_lst (pa_cons (pe_tup (pa_cons pe_str (pa_cons pe_str (pa_cons pe_int (pa_cons pe_int pa_nil))))) (pa_cons (pe_tup (pa_cons pe_str (pa_cons pe_str (pa_cons pe_int (pa_cons pe_int pa_nil))))) pa_nil)))))
    (pss_cons (ps_expr (pe_bm PySem.F.plainAttrs_list PySem.F.slot_list_append PySem.F.type_list_append mt_append (pv 0) (pa_cons (pe_tup (pa_cons pe_str (pa_cons pe_str (pa_cons pe_int (pa_cons pe_int pa_nil))))) pa_nil)))
    (pss_cons (ps_for PassesOwn.never rfl (pi_list (pv 0)) (pg_tup rfl (pgs_cons (pg_name (i := 1) scLHeadsRight.nd rfl (Or.inl rfl)) (pgs_cons (pg_name (i := 2) scLHeadsRight.nd rfl (Or.inl rfl)) (pgs_cons (pg_name (i := 3) scLHeadsRight.nd rfl (Or.inl rfl)) (pgs_cons (pg_name (i := 4) scLHeadsRight.nd rfl (Or.inl rfl)) pgs_nil)))))
      (pss_one (ps_if (PW.pt (pw_or (pt_not (pt_val (pe_callB RZ.call_isTy (by rfl) m_isinstance (by decide +kernel) (pa_cons (pe_call GS hr (by rfl) gS kS bS .nil pass0 (pa_cons (pv 1) pa_nil)) (pa_cons (pe_bltn (v := .ty "tuple") (by rfl) m_tuple (by decide +kernel) rfl) pa_nil))))) (pw_or1 (pt_cmpR (op_neD hr.units) (pe_call GS hr (by rfl) gS kS bS .nil pass0 (pa_cons (pv 2) pa_nil)) (pe_lst (pa_cons (pv 3) (pa_cons (pv 4) pa_nil))) (nomark _)))))
        (pss_one (ps_ret pe_bl))
        pss_nil)))
    (pss_one (ps_ret pe_bl)))))))), ?_⟩
    have szl := sizeLine_eq
    refine seq_asg ?_
    refine Gv.run (R := isNw H (isLs 3 isHd)) (Hb := H) (Gv.lstN (Gs.cons (Gv.hd _ _ 1 2 (hd_of (by decide +kernel))) (Gs.cons (Gv.hd _ _ 1 2 (hd_of (by decide +kernel))) (Gs.cons (Gv.hd _ _ 1 2 (hd_of (by decide +kernel))) Gs.nil isHd.stb) isHd.stb) isHd.stb) isHd.stb (by decide)) Kept.refl (fun v1 H1 k1 r1n => ?_)
    obtain ⟨r1, p1, e1, n1⟩ := r1n
    refine after_drop (v := v1) ?_
    refine seq_app (R := isHd) (v := v1) (Hb := H1) rfl r1 (Gv.hd _ _ 2 6 (hd_of (by decide +kernel))) isHd.stb isHd.stbL Kept.refl (by decide) (fun p2 H2 e2 k2 r2 => ?_)
    cases e1.symm.trans e2
    have k02 := Kept.mine k1 n1 k2
    refine seq_app (R := isHd) (v := v1) (Hb := H2) rfl r2 (Gv.hd _ _ 2 3 (hd_of (by decide +kernel))) isHd.stb isHd.stbL Kept.refl (by decide) (fun p3 H3 e3 k3 r3 => ?_)
    cases e1.symm.trans e3
    have k03 := Kept.mine k02 n1 k3
    refine seq_asg ?_
    refine Gv.run (R := isNw H3 (isLs (3 + 1 + 1 + 2) isHd)) (Hb := H3) (Gv.catN (Gv.var (R := isLs (3 + 1 + 1) isHd) (v := v1) rfl r3 (isLs.stb isHd.stb)) (Gv.lst (Gs.cons (Gv.hd _ _ 2 1 (hd_of (by decide +kernel))) (Gs.cons (Gv.hd _ _ 1 3 (hd_of (by decide +kernel))) Gs.nil isHd.stb) isHd.stb) isHd.stb (by decide)) isHd.stb (by decide)) Kept.refl (fun v4 H4 k4 r4n => ?_)
    obtain ⟨r4, p4, e4, n4⟩ := r4n
    have k04 := k03.trans k4
    refine after_drop (v := v4) ?_
    refine seq_app (R := isHd) (v := v4) (Hb := H4) rfl r4 (Gv.hd _ _ 1 1 (hd_of (by decide +kernel))) isHd.stb isHd.stbL Kept.refl (by decide) (fun p5 H5 e5 k5 r5 => ?_)
    cases e4.symm.trans e5
    have k05 := Kept.mine k04 (k03.free n4) k5
    obtain ⟨A, xs, e6, eA, lA, rA⟩ := r5
    subst e6
    refine ⟨.ref A, rfl, A, rfl, ⟨_, SqL.of eA⟩, ?_⟩
    refine for_list (K := K) (a := A) (xs := xs) (fun i σ H' => Kept None H5 H' ∧ ∃ y1 y2 y3 y4, σ = [some (.ref A), y1, y2, y3, y4]) ⟨Kept.refl, _, _, _, _, rfl⟩ (fun i σ H' _ h => SqL.of (h.1.lst eA (fun z => z))) (fun i x σ H6 hx h => ?_) (fun σ H6 h => ?_)
    · obtain ⟨k6, y1, y2, y3, y4, rfl⟩ := h
      obtain ⟨g, b, ln, wd, ⟨a, rfl, ea⟩, dg, db, lg, lb⟩ := rA x (List.mem_of_getElem? hx)
      have ea6 := k6.tup ea fun z => z
      refine ⟨a, _, rfl, SqT.of ea6, rfl, ?_⟩
      refine ⟨_, _, rfl, _, _, rfl, _, _, rfl, _, _, rfl, rfl, ?_⟩
      refine inst_good (Gc.gv (Gc.var (v := .str g) rfl)) Kept.refl dg lg fun H7 k7 => ⟨_, rfl, iteF ?_⟩
      refine neq_bad (Gc.gv (Gc.var (v := .str b) rfl)) (Gv.two (Gc.var rfl) (Gc.var rfl)) Kept.refl db lb fun H8 k8 => ⟨_, rfl, iteF ?_⟩
      exact ⟨(k6.trans k7).trans k8, _, _, _, _, rfl⟩
    · obtain ⟨k6, y1, y2, y3, y4, rfl⟩ := h
      exact q _ (k05.trans k6)
end
end K9

set_option Elab.async false
set_option linter.all false
set_option maxRecDepth 100000
set_option maxHeartbeats 800000
namespace K9
open PySem PySem.Spec PyProof.Rows L2 TL
/-! ### lines at bounds and beyond -/
/-- the first wrong word of a line that begins with set or tell -/
def chk (v : Nat) : List PySem.Str → Nat
  | [] => 99
  | z :: r => if z = "set" then badAt (setS v r) r 2 else if z = "tell" then badAt [.name] r 2 else 99
def headB : List PySem.Str → Bool
  | [] => false
  | z :: _ => decide (z = "set") || decide (z = "tell")
theorem chk_step {v m : Nat} {S : List Bk} {ws : List PySem.Str} (h : headB ws = true) (hm : m < 60) (hS : S.length < 6) : step v S m ws = fin (chk v ws) (S, m + 1) := by
  cases ws with
  | nil => cases h
  | cons z r =>
    unfold headB at h
    rw [Bool.or_eq_true, decide_eq_true_eq, decide_eq_true_eq] at h
    unfold chk
    rcases h with rfl | rfl
    · dsimp only
      rw [if_pos rfl, set_step hm hS]
    · dsimp only
      rw [if_neg (by decide +kernel), if_pos rfl, tell_step hm hS]
theorem headB_ne {ws : List PySem.Str} (h : headB ws = true) : ws ≠ [] := fun e => by rw [e] at h; cases h
def wtB (w : PySem.Str) : Bool := !w.cps.toList.isEmpty && w.cps.toList.all fun c => decide (48 ≤ c)
theorem wtB_ok {w : PySem.Str} (h : wtB w = true) : Wt w := by
  unfold wtB at h
  obtain ⟨h1, h2⟩ := Bool.and_eq_true_iff.mp h
  refine ⟨fun e => (by rw [e] at h1; cases h1), fun c hc => ?_⟩
  exact of_decide_eq_true (List.all_eq_true.mp h2 c hc)
/-- a right line -/
def Gd (v : Nat) (g : PySem.Str) : Prop := (∃ gw, g = spj gw ∧ (∀ w ∈ gw, Wt w) ∧ GoodL v gw) ∧ g.length ≤ 100
/-- a line whose word n can't stand there -/
def Bd (v : Nat) (b : PySem.Str) (n : Nat) : Prop := (∃ bw, rowsS b = [bw] ∧ bw ≠ [] ∧ ∀ m, m < 60 → step v [] m bw = .inl n) ∧ b.length ≤ 100
def lbB (v : Nat) (g b : PySem.Str) (n : Nat) : Bool :=
  let gw := (rowsS g).headD []
  let bw := (rowsS b).headD []
  decide (spj gw = g) && (gw.all wtB && (headB gw && (decide (chk v gw = 0) && (decide (g.length ≤ 100) && (decide (rowsS b = [bw]) && (headB bw && (decide (chk v bw = n) && (decide (n ≠ 0) && decide (b.length ≤ 100)))))))))
theorem lb_of {v n : Nat} {g b : PySem.Str} (h : lbB v g b n = true) : Gd v g ∧ Bd v b n := by
  unfold lbB at h
  simp only [Bool.and_eq_true, decide_eq_true_eq] at h
  obtain ⟨h1, h2, h3, h4, h5, h6, h7, h8, h9, h10⟩ := h
  refine ⟨⟨⟨_, h1.symm, fun w hw => wtB_ok (List.all_eq_true.mp h2 w hw), headB_ne h3, fun m hm S hS => ?_⟩, h5⟩, ⟨_, h6, headB_ne h7, fun m hm => ?_⟩, h10⟩
  · rw [chk_step h3 hm hS, h4]; rfl
  · rw [chk_step h7 hm (by decide), h8]
    exact if_neg h9
def lbA (g b : Nat → PySem.Str) (n : Nat) : Bool := (List.range 13).all fun v => lbB v (g v) (b v) n
theorem lb_all {v n : Nat} {g b : Nat → PySem.Str} (h : lbA g b n = true) (hv : v ≤ 12) : Gd v (g v) ∧ Bd v (b v) n := lb_of (List.all_eq_true.mp h v (List.mem_range.mpr (by omega)))
def isLb (v : Nat) : V → Hp → Prop := fun u H => ∃ (g b : PySem.Str) (n : Nat), isT [.str g, .str b, .int (n : Int)] u H ∧ Gd v g ∧ Bd v b n
theorem isLb.stb {v : Nat} : Stb (isLb v) := fun u H H' ⟨g, b, n, h, f⟩ k => ⟨g, b, n, isT.stb _ _ _ h k, f⟩
theorem isLb.stbL {v : Nat} : StbL (isLb v) := fun u H H' p xs ⟨g, b, n, h, f⟩ hp k => ⟨g, b, n, isT.stbL _ _ _ _ _ h hp k, f⟩
theorem Gv.lbg {v n : Nat} {Hb : Hp} {σ : L2.St} {ta tb : TE} {g b : PySem.Str} (ga : Gv Hb ta σ (isC (.str g))) (gb : Gv Hb tb σ (isC (.str b))) (f : Gd v g ∧ Bd v b n) : Gv Hb (tTup (tCons ta (tCons tb (tCons (tC (.int (n : Int))) tNil)))) σ (isLb v) := fun H Q k q =>
  ga H _ k fun x H1 k1 e1 => gb H1 _ (k.trans k1) fun y H2 k2 e2 => ⟨(show 3 ≤ sizeLine by decide), fun p hp => by
    cases e1
    cases e2
    exact q (.ref p) _ ((k1.trans k2).trans (Kept.refl.new hp)) ⟨g, b, n, ⟨p, rfl, upd_same⟩, f⟩⟩
theorem Gv.lb {v n : Nat} {Hb : Hp} {σ : L2.St} (g b : PySem.Str) (h : lbA (fun _ => g) (fun _ => b) n = true) (hv : v ≤ 12) : Gv Hb (tTup (tCons (tC (.str g)) (tCons (tC (.str b)) (tCons (tC (.int (n : Int))) tNil)))) σ (isLb v) :=
  Gv.lbg (Gc.gv Gc.c) (Gc.gv Gc.c) (lb_all (g := fun _ => g) (b := fun _ => b) h hv)
abbrev twoZ : List PySem.Str := ["up", "down"]
abbrev sevenZ : List PySem.Str := ["add", "less", "and", "or", "unlike", "same", "below"]
theorem two_lb : ∀ x ∈ twoZ, lbA (fun _ => "set x " ++ x ++ " y 11") (fun _ => "set x " ++ x ++ " y 12") 5 = true ∧ lbA (fun _ => "set x " ++ x ++ " y 0") (fun _ => "set x " ++ x ++ " y -1") 5 = true := by decide +kernel
theorem seven_lb : ∀ x ∈ sevenZ, lbA (fun _ => Txt.join " " ["set x", x, "y z"]) (fun _ => Txt.join " " ["set x", x, "y z z"]) 6 = true ∧ lbA (fun _ => Txt.join " " ["set x", x, "y y"]) (fun _ => Txt.join " " ["set x", x, "y"]) 5 = true := by decide +kernel
theorem most_lb : lbA (fun v => "set x number " ++ dec (2 ^ v - 1)) (fun v => "set x number " ++ dec (2 ^ v)) 4 = true := by decide +kernel
theorem lb_consts : lbA (fun _ => "set x number 0") (fun _ => "set x number -1") 4 = true ∧ lbA (fun _ => "set abcdefgh copy z") (fun _ => "set abcdefghi copy z") 2 = true ∧ lbA (fun _ => "set x copy zzzzzzzz") (fun _ => "set x copy zzzzzzzzz") 4 = true ∧
    lbA (fun _ => "set x pick c y z") (fun _ => "set x pick c y") 6 = true ∧ lbA (fun _ => "set x pick c y z") (fun _ => "set x pick c y z a") 7 = true ∧ lbA (fun _ => "tell abcdefgh") (fun _ => "tell abcdefghi") 2 = true ∧ lbA (fun _ => "tell x") (fun _ => "tell x x") 3 = true ∧
    lbA (fun _ => "tell x") (fun _ => "tell") 2 = true ∧ lbA (fun _ => "set x copy y") (fun _ => "set x copy y y") 5 = true ∧ lbA (fun _ => "set x copy y") (fun _ => "set x copy") 4 = true := by decide +kernel
abbrev sLLinesBeyond : Stmt := top 44
theorem scLLinesBeyond : FnScope ["wide", "most", "some", "word"] ["wide"] (defScope sLLinesBeyond) := ⟨rfl, rfl, rfl, by decide +kernel, rfl, by decide +kernel, by decide +kernel⟩
def spBeyond : Sp := fun vs H Q _ => ∃ v : Nat, vs = [.int (v : Int)] ∧ 1 ≤ v ∧ v ≤ 12 ∧ ∀ u H' j, Kept None H H' → isLs j (isLb v) u H' → j ≤ 100 → Q u H'
section
variable {Hb : Hp} {σ : L2.St} {ta tb : TE} {a b c : PySem.Str}
theorem Gv.addC (ga : Gv Hb ta σ (isC (.str a))) (gb : Gv Hb tb σ (isC (.str b))) (h : a.length + b.length ≤ sizeLine) : Gv Hb (tOp (fun x y H Q => ∃ i j, x = .str i ∧ y = .str j ∧ i.length + j.length ≤ sizeLine ∧ Q (.str (i ++ j)) H) ta tb) σ (isC (.str (a ++ b))) := fun H _ k q =>
  ga H _ k fun x H1 k1 e1 => gb H1 _ (k.trans k1) fun y H2 k2 e2 => ⟨a, b, e1, e2, h, q _ H2 (k1.trans k2) rfl⟩
theorem Gv.lstC {t : TA} {vs : List V} (gs : Gcs t σ vs) (h : vs.length ≤ sizeLine) : Gv Hb (tLst t) σ (isV vs) := fun H _ k q => gs H _ ⟨h, fun p hp => q (.ref p) _ (Kept.refl.new hp) ⟨p, rfl, upd_same⟩⟩
abbrev rJoin (K : PySem.W.Frag) : V → List V → Hp → VK → Prop := fun x xs H Q => ∃ a p, ∃ ys : List Str, x = .str a ∧ xs = [.ref p] ∧ (SqL K H p (ys.map V.str) ∨ SqT K H p (ys.map V.str)) ∧ (ys.map (·.length)).sum + ys.length * a.length ≤ 16777216 ∧ Q (.str (Txt.join a ys)) H
theorem Gv.join {K : PySem.W.Frag} {ys : List PySem.Str} (ga : Gv Hb ta σ (isV (ys.map V.str))) (h : (ys.map (·.length)).sum + ys.length * a.length ≤ 16777216) : Gv Hb (tM1 (rJoin K) (tC (.str a)) ta) σ (isC (.str (Txt.join a ys))) := fun H _ k q =>
  ⟨⟨a, rfl⟩, ga H _ k fun v H1 k1 ⟨p, e, hp⟩ => by
    subst e
    exact ⟨a, p, ys, rfl, rfl, .inl (SqL.of hp), h, q _ H1 k1 rfl⟩⟩
end
theorem one_app {K : PySem.W.Frag} {i n : Nat} {te : TE} {D : Ends} {R : V → Hp → Prop} {σ : L2.St} {H Hb : Hp} {v : V} (hv : σ[i]? = some (some v)) (r : isLs n R v H) (g : Gv Hb te σ R) (st : Stb R) (stL : StbL R) (kp : Kept None Hb H) (hn : n < sizeLine)
    (q : ∀ p H', v = .ref p → Kept (fun b => b = p) H H' → isLs (n + 1) R v H' → D.nx σ H') : tDrop (tBM K "list" rAppend (tVar i) (tCons te tNil)) D σ H := seq_app (u := fun _ => D.nx) (D := D) hv r g st stL kp hn q
theorem after_seqD {i : Nat} {v : V} {te : TE} {u : TS} {D : Ends} {σ : L2.St} {H : Hp} (h : tSeq (tDrop te) u D (σ.set i (some v)) H) : gName i v σ H (tSeq (tDrop te) u D) := h
theorem forTupC {K : PySem.W.Frag} {t : TA} {vs : List V} {g : TG} {tb : TS} {D : Ends} {σ : L2.St} {H : Hp} (gs : Gcs t σ vs) (hn : vs.length ≤ sizeLine) (q : ∀ p, H p = none → tFor (fun _ H R => R (Itt K p) H) g tb D σ (upd H p (.tup vs))) : tFor (iTup K (tTup t)) g tb D σ H :=
  gs H _ ⟨hn, fun p hp => ⟨p, rfl, ⟨vs, SqT.of upd_same⟩, q p hp⟩⟩
theorem Gv.strBit {Hb : Hp} {σ : L2.St} {v : Nat} (h0 : σ[0]? = some (some (.int (v : Int)))) (hv : v ≤ 12) : Gv Hb (tCB rStrB (tCons (tOp rBit (tC (.int 1)) (tVar 0)) tNil)) σ (isC (.str (dec (2 ^ v)))) := fun H Q k q => by
  have tl : 2 ^ v ≤ 4096 := Nat.pow_le_pow_right (n := 2) (i := v) (j := 12) (by decide) hv
  have tp := Nat.two_pow_pos v
  have tsm : ((2 ^ v : Nat) : Int).natAbs.log2 < 1920 := by
    rw [Int.natAbs_natCast]
    exact (Nat.log2_lt (by omega)).mpr (Nat.lt_of_le_of_lt tl (Nat.lt_of_lt_of_le (show 4096 < 2 ^ 13 by decide) (Nat.pow_le_pow_right (by decide) (by decide))))
  exact ⟨.int (v : Int), h0, v, rfl, rfl, by omega, .inr ⟨_, rfl, tsm, q _ H Kept.refl rfl⟩⟩
theorem Gv.strMost {Hb : Hp} {σ : L2.St} {v : Nat} (h0 : σ[0]? = some (some (.int (v : Int)))) (hv : v ≤ 12) : Gv Hb (tCB rStrB (tCons (tOp (rI0 fun i j => .int (i - j)) (tOp rBit (tC (.int 1)) (tVar 0)) (tC (.int 1))) tNil)) σ (isC (.str (dec (2 ^ v - 1)))) := fun H Q k q => by
  have tl : 2 ^ v ≤ 4096 := Nat.pow_le_pow_right (n := 2) (i := v) (j := 12) (by decide) hv
  have tp := Nat.two_pow_pos v
  have e : ((2 ^ v : Nat) : Int) - 1 = ((2 ^ v - 1 : Nat) : Int) := by omega
  refine ⟨.int (v : Int), h0, v, rfl, rfl, by omega, ((2 ^ v : Nat) : Int), 1, rfl, rfl, .inr ⟨_, rfl, ?_, ?_⟩⟩
  · rw [e]; exact sm_log (by omega)
  · rw [e]; exact q _ H Kept.refl rfl
theorem loopz_len : ∀ x ∈ twoZ ++ sevenZ, x.length ≤ 10 := by decide +kernel
theorem Gv.add3 {Hb : Hp} {σ : L2.St} {a z b : PySem.Str} (hs : σ[3]? = some (some (.str z))) (hz : z.length ≤ 10) (ha : a.length ≤ 20) (hb : b.length ≤ 20) : Gv Hb (tOp (fun x y H Q => ∃ i j, x = .str i ∧ y = .str j ∧ i.length + j.length ≤ sizeLine ∧ Q (.str (i ++ j)) H) (tOp (fun x y H Q => ∃ i j, x = .str i ∧ y = .str j ∧ i.length + j.length ≤ sizeLine ∧ Q (.str (i ++ j)) H) (tC (.str a)) (tVar 3)) (tC (.str b))) σ (isC (.str (a ++ z ++ b))) :=
  have szl := sizeLine_eq
  Gv.addC (Gv.addC (Gc.gv Gc.c) (Gc.gv (Gc.var hs)) (by omega)) (Gc.gv Gc.c) (by rw [PySem.Str.length_append]; omega)
theorem Gv.join3 {K : PySem.W.Frag} {Hb : Hp} {σ : L2.St} {a z b : PySem.Str} (hs : σ[3]? = some (some (.str z))) (hz : z.length ≤ 10) (ha : a.length ≤ 20) (hb : b.length ≤ 20) : Gv Hb (tM1 (rJoin K) (tC (.str " ")) (tLst (tCons (tC (.str a)) (tCons (tVar 3) (tCons (tC (.str b)) tNil))))) σ (isC (.str (Txt.join " " [a, z, b]))) :=
  Gv.join (ys := [a, z, b]) (Gv.lstC (vs := [.str a, .str z, .str b]) (Gcs.cons Gc.c (Gcs.cons (Gc.var hs) (Gcs.cons Gc.c Gcs.nil))) (show 3 ≤ sizeLine by decide)) (by
    have l1 : (" " : PySem.Str).length = 1 := by decide +kernel
    show a.length + (z.length + (b.length + 0)) + 3 * (" " : PySem.Str).length ≤ 16777216
    omega)
theorem dec_len2 : ∀ v, v < 13 → (dec (2 ^ v)).length ≤ 8 := by decide +kernel
section
variable {P : Program} {w : World} {K : PySem.W.Frag} {mg : PySem.Str → Option Value} {base : Heap} {f : Addr} {fd : FuncData}
theorem ok_beyond (F : FnP K "_law_lines_beyond" sLLinesBeyond f fd) (m_str : mg "str" = none) : FnOk P w K mg base CX0 1 f fd ["wide"] spBeyond := by
  refine F.ok (k := 0) scLLinesBeyond (fun vs H Q E h => ?_) (fun cdv A0 outer s H vs Q E hr h => ?_)
  · obtain ⟨v, rfl, _⟩ := h
    rfl
  · obtain ⟨v, rfl, v1, v2, q⟩ := h
    refine ⟨_, PSs.nox (pss_cons (ps_set (i := 1) scLLinesBeyond.nd rfl (Or.inl rfl) (pe_callTy call_strB (by rfl) m_str (by decide +kernel) (pa_cons (pe_op op_sub (pe_op n_bit pe_int (pv 0)) pe_int) pa_nil)))
    (pss_cons (ps_set (i := 2) scLLinesBeyond.nd rfl (Or.inl rfl) (pe_lst (pa_cons (pe_tup (pa_cons (pe_op op_add_str pe_str (pv 1)) (pa_cons (pe_op op_add_str pe_str (pe_callTy call_strB (by rfl) m_str (by decide +kernel) (pa_cons (pe_op n_bit pe_int (pv 0)) pa_nil))) (pa_cons pe_int pa_nil)))) (pa_cons (pe_tup (pa_cons pe_str (pa_cons pe_str (pa_cons pe_int pa_nil)))) pa_nil))))
    (pss_cons (ps_expr (pe_bm PySem.F.plainAttrs_list PySem.F.slot_list_append PySem.F.type_list_append mt_append (pv 2) (pa_cons (pe_tup (pa_cons pe_str (pa_cons pe_str (pa_cons pe_int pa_nil)))) pa_nil)))
    (pss_cons (ps_expr (pe_bm PySem.F.plainAttrs_list PySem.F.slot_list_append PySem.F.type_list_append mt_append (pv 2) (pa_cons (pe_tup (pa_cons pe_str (pa_cons pe_str (pa_cons pe_int pa_nil)))) pa_nil)))
    (pss_cons (ps_for PassesOwn.never rfl (pi_tup (pe_tup (pa_cons pe_str (pa_cons pe_str pa_nil)))) (pg_name (i := 3) scLLinesBeyond.nd rfl (Or.inl rfl))
      (pss_cons (ps_expr (pe_bm PySem.F.plainAttrs_list PySem.F.slot_list_append PySem.F.type_list_append mt_append (pv 2) (pa_cons (pe_tup (pa_cons (pe_op op_add_str (pe_op op_add_str pe_str (pv 3)) pe_str) (pa_cons (pe_op op_add_str (pe_op op_add_str pe_str (pv 3)) pe_str) (pa_cons pe_int pa_nil)))) pa_nil)))
      (pss_one (ps_expr (pe_bm PySem.F.plainAttrs_list PySem.F.slot_list_append PySem.F.type_list_append mt_append (pv 2) (pa_cons (pe_tup (pa_cons (pe_op op_add_str (pe_op op_add_str pe_str (pv 3)) pe_str) (pa_cons (pe_op op_add_str (pe_op op_add_str pe_str (pv 3)) pe_str) (pa_cons pe_int pa_nil)))) pa_nil))))))
    (pss_cons (ps_for PassesOwn.never rfl (pi_tup (pe_tup (pa_cons pe_str (pa_cons pe_str (pa_cons pe_str (pa_cons pe_str (pa_cons pe_str (pa_cons pe_str (pa_cons pe_str pa_nil))))))))) (pg_name (i := 3) scLLinesBeyond.nd rfl (Or.inl rfl))
      (pss_cons (ps_expr (pe_bm PySem.F.plainAttrs_list PySem.F.slot_list_append PySem.F.type_list_append mt_append (pv 2) (pa_cons (pe_tup (pa_cons (pe_join pe_str (pe_lst (pa_cons pe_str (pa_cons (pv 3) (pa_cons pe_str pa_nil))))) (pa_cons (pe_join pe_str (pe_lst (pa_cons pe_str (pa_cons (pv 3) (pa_cons pe_str pa_nil))))) (pa_cons pe_int pa_nil)))) pa_nil)))
      (pss_one (ps_expr (pe_bm PySem.F.plainAttrs_list PySem.F.slot_list_append PySem.F.type_list_append mt_append (pv 2) (pa_cons (pe_tup (pa_cons (pe_join pe_str (pe_lst (pa_cons pe_str (pa_cons (pv 3) (pa_cons pe_str pa_nil))))) (pa_cons (pe_join pe_str (pe_lst (pa_cons pe_str (pa_cons (pv 3) (pa_cons pe_str pa_nil))))) (pa_cons pe_int pa_nil)))) pa_nil))))))
    (pss_cons (ps_set (i := 2) scLLinesBeyond.nd rfl (Or.inl rfl) (pe_op op_cat (pv 2) (pe_lst (pa_cons (pe_tup (pa_cons pe_str (pa_cons pe_str (pa_cons pe_int pa_nil)))) (pa_cons (pe_tup (pa_cons pe_str (pa_cons pe_str (pa_cons pe_int pa_nil)))) pa_nil)))))
    (pss_cons (ps_set (i := 2) scLLinesBeyond.nd rfl (Or.inl rfl) (pe_op op_cat (pv 2) (pe_lst (pa_cons (pe_tup (pa_cons pe_str (pa_cons pe_str (pa_cons pe_int pa_nil)))) (pa_cons (pe_tup (pa_cons pe_str (pa_cons pe_str (pa_cons pe_int pa_nil)))) (pa_cons (pe_tup (pa_cons pe_str (pa_cons pe_str (pa_cons pe_int pa_nil)))) pa_nil))))))
    (pss_one (ps_ret (pe_op op_cat (pv 2) (pe_lst (pa_cons (pe_tup (pa_cons pe_str (pa_cons pe_str (pa_cons pe_int pa_nil)))) (pa_cons (pe_tup (pa_cons pe_str (pa_cons pe_str (pa_cons pe_int pa_nil)))) pa_nil)))))))))))))), ?_⟩
    have szl := sizeLine_eq
    have tl : 2 ^ v ≤ 4096 := Nat.pow_le_pow_right (n := 2) (i := v) (j := 12) (by decide) v2
    have tp := Nat.two_pow_pos v
    obtain ⟨b0, b1, b2, b3, b4, b5, b6, b7, b8, b9⟩ := lb_consts
    have dl : (dec (2 ^ v - 1)).length ≤ 8 := (dec_num (by omega)).2
    refine seq_asg ?_
    refine Gv.run (Hb := H) (Gv.strMost rfl v2) Kept.refl (fun u0 H0 k0 e0 => ?_)
    cases e0
    refine after_set (v := .str (dec (2 ^ v - 1))) ?_
    have l13 : ("set x number " : PySem.Str).length = 13 := by decide +kernel
    have dl2 := dec_len2 v (by omega)
    refine Gv.run (R := isNw H0 (isLs 2 (isLb v))) (Hb := H0) (Gv.lstN (Gs.cons (Gv.lbg (n := 4) (Gv.addC (Gc.gv Gc.c) (Gc.gv (Gc.var rfl)) (by omega)) (Gv.addC (Gc.gv Gc.c) (Gv.strBit rfl v2) (by omega)) (lb_all most_lb v2)) (Gs.cons (Gv.lb _ _ b0 v2) Gs.nil isLb.stb) isLb.stb) isLb.stb (by decide)) Kept.refl (fun u1 H1 k1 r1n => ?_)
    obtain ⟨r1, p1, e1', n1⟩ := r1n
    refine after_seqD (v := u1) ?_
    refine seq_app (R := isLb v) (v := u1) (Hb := H1) rfl r1 (Gv.lb _ _ b1 v2) isLb.stb isLb.stbL Kept.refl (by decide) (fun p2 H2 e2 k2 r2 => ?_)
    cases e1'.symm.trans e2
    have k02 := Kept.mine (k0.trans k1) (k0.free n1) k2
    refine seq_app (R := isLb v) (v := u1) (Hb := H2) rfl r2 (Gv.lb _ _ b2 v2) isLb.stb isLb.stbL Kept.refl (by decide) (fun p3 H3 e3 k3 r3 => ?_)
    cases e1'.symm.trans e3
    have k03 := Kept.mine k02 (k0.free n1) k3
    subst e2
    refine forTupC (vs := twoZ.map V.str) (Gcs.cons Gc.c (Gcs.cons Gc.c Gcs.nil)) (by decide) fun t4 ht4 => ?_
    have k4 : Kept None H3 (upd H3 t4 (.tup (twoZ.map V.str))) := Kept.refl.new ht4
    have f4 : upd H3 t4 (.tup (twoZ.map V.str)) t4 = some (.tup (twoZ.map V.str)) := upd_same
    have r4 := isLs.stb isLb.stb _ _ _ r3 k4
    have k04 := k03.trans k4
    generalize upd H3 t4 (.tup (twoZ.map V.str)) = H4 at k4 f4 r4 k04 ⊢
    clear r1 r2 r3 k1 k2 k3 k4 k02 k03
    refine for_tup (K := K) (a := t4) (xs := twoZ.map V.str) (fun i σ H' => Kept (fun b => b = p1) H4 H' ∧ isLs (4 + 2 * i) (isLb v) (.ref p1) H' ∧ ∃ y3, σ = [some (.int (v : Int)), some (.str (dec (2 ^ v - 1))), some (.ref p1), y3])
      ⟨Kept.refl, r4, _, rfl⟩ (fun i σ H' _ h => SqT.of (h.1.tup f4 fun z => ?_)) (fun i x σ H5 hx h => ?_) (fun σ H5 h => ?_)
    · obtain ⟨p, xs, e, h, _⟩ := r4
      cases e
      rw [z, h] at f4
      cases f4
    · obtain ⟨k5, r5, y3, rfl⟩ := h
      rw [List.getElem?_map] at hx
      obtain ⟨z, hz, rfl⟩ := Option.map_eq_some_iff.mp hx
      have hi := (List.getElem?_eq_some_iff.mp hz).1
      replace hi : i < 2 := hi
      have hm := List.mem_of_getElem? hz
      obtain ⟨w1, w2⟩ := two_lb z hm
      have zl := loopz_len z (List.mem_append_left _ hm)
      refine after_any (v := .str z) ?_
      refine seq_app (R := isLb v) (v := .ref p1) (Hb := H5) rfl r5 (Gv.lbg (n := 5) (Gv.add3 rfl zl (by decide +kernel) (by decide +kernel)) (Gv.add3 rfl zl (by decide +kernel) (by decide +kernel)) (lb_all w1 v2)) isLb.stb isLb.stbL Kept.refl (by omega) (fun p6 H6 e6 k6 r6 => ?_)
      cases e6
      refine one_app (R := isLb v) (v := .ref p1) (Hb := H6) rfl r6 (Gv.lbg (n := 5) (Gv.add3 rfl zl (by decide +kernel) (by decide +kernel)) (Gv.add3 rfl zl (by decide +kernel) (by decide +kernel)) (lb_all w2 v2)) isLb.stb isLb.stbL Kept.refl (by omega) (fun p7 H7 e7 k7 r7 => ?_)
      cases e7
      exact ⟨(k5.trans k6).trans k7, r7, _, rfl⟩
    · obtain ⟨k5, r5, y3, rfl⟩ := h
      have k05 := Kept.mine k04 (k0.free n1) k5
      clear k5 f4 r4 k04
      refine forTupC (vs := sevenZ.map V.str) (Gcs.cons Gc.c (Gcs.cons Gc.c (Gcs.cons Gc.c (Gcs.cons Gc.c (Gcs.cons Gc.c (Gcs.cons Gc.c (Gcs.cons Gc.c Gcs.nil))))))) (by decide) fun t6 ht6 => ?_
      have k6 : Kept None H5 (upd H5 t6 (.tup (sevenZ.map V.str))) := Kept.refl.new ht6
      have f6 : upd H5 t6 (.tup (sevenZ.map V.str)) t6 = some (.tup (sevenZ.map V.str)) := upd_same
      have r6 := isLs.stb isLb.stb _ _ _ r5 k6
      have k06 := k05.trans k6
      generalize upd H5 t6 (.tup (sevenZ.map V.str)) = H6 at k6 f6 r6 k06 ⊢
      clear r5 k6
      refine for_tup (K := K) (a := t6) (xs := sevenZ.map V.str) (fun i σ H' => Kept (fun b => b = p1) H6 H' ∧ isLs (8 + 2 * i) (isLb v) (.ref p1) H' ∧ ∃ y3, σ = [some (.int (v : Int)), some (.str (dec (2 ^ v - 1))), some (.ref p1), y3])
        ⟨Kept.refl, r6, _, rfl⟩ (fun i σ H' _ h => SqT.of (h.1.tup f6 fun z => ?_)) (fun i x σ H7 hx h => ?_) (fun σ H7 h => ?_)
      · obtain ⟨p, xs, e, h, _⟩ := r6
        cases e
        rw [z, h] at f6
        cases f6
      · obtain ⟨k7, r7, y3, rfl⟩ := h
        rw [List.getElem?_map] at hx
        obtain ⟨z, hz, rfl⟩ := Option.map_eq_some_iff.mp hx
        have hi := (List.getElem?_eq_some_iff.mp hz).1
        replace hi : i < 7 := hi
        have hm := List.mem_of_getElem? hz
        obtain ⟨w1, w2⟩ := seven_lb z hm
        have zl := loopz_len z (List.mem_append_right _ hm)
        refine after_any (v := .str z) ?_
        refine seq_app (R := isLb v) (v := .ref p1) (Hb := H7) rfl r7 (Gv.lbg (n := 6) (Gv.join3 rfl zl (by decide +kernel) (by decide +kernel)) (Gv.join3 rfl zl (by decide +kernel) (by decide +kernel)) (lb_all w1 v2)) isLb.stb isLb.stbL Kept.refl (by omega) (fun p8 H8 e8 k8 r8 => ?_)
        cases e8
        refine one_app (R := isLb v) (v := .ref p1) (Hb := H8) rfl r8 (Gv.lbg (n := 5) (Gv.join3 rfl zl (by decide +kernel) (by decide +kernel)) (Gv.join3 rfl zl (by decide +kernel) (by decide +kernel)) (lb_all w2 v2)) isLb.stb isLb.stbL Kept.refl (by omega) (fun p9 H9 e9 k9 r9 => ?_)
        cases e9
        exact ⟨(k7.trans k8).trans k9, r9, _, rfl⟩
      · obtain ⟨k7, r7, y3, rfl⟩ := h
        have k07 := Kept.mine k06 (k0.free n1) k7
        dsimp only
        refine seq_asg ?_
        refine Gv.run (R := isLs (8 + 2 * 7 + 2) (isLb v)) (Hb := H7) (Gv.catR (Gv.var (R := isLs (8 + 2 * 7) (isLb v)) (v := .ref p1) rfl r7 (isLs.stb isLb.stb)) (Gv.lst (Gs.cons (Gv.lb _ _ b3 v2) (Gs.cons (Gv.lb _ _ b4 v2) Gs.nil isLb.stb) isLb.stb) isLb.stb (by decide)) isLb.stb (by decide)) Kept.refl (fun u8 H8 k8 r8 => ?_)
        refine after_set (v := u8) ?_
        refine Gv.run (R := isLs (8 + 2 * 7 + 2 + 3) (isLb v)) (Hb := H8) (Gv.catR (Gv.var (R := isLs (8 + 2 * 7 + 2) (isLb v)) (v := u8) rfl r8 (isLs.stb isLb.stb)) (Gv.lst (Gs.cons (Gv.lb _ _ b5 v2) (Gs.cons (Gv.lb _ _ b6 v2) (Gs.cons (Gv.lb _ _ b7 v2) Gs.nil isLb.stb) isLb.stb) isLb.stb) isLb.stb (by decide)) isLb.stb (by decide)) Kept.refl (fun u9 H9 k9 r9 => ?_)
        refine after_ret (v := u9) ?_
        refine Gv.run (R := isLs (8 + 2 * 7 + 2 + 3 + 2) (isLb v)) (Hb := H9) (Gv.catR (Gv.var (R := isLs (8 + 2 * 7 + 2 + 3) (isLb v)) (v := u9) rfl r9 (isLs.stb isLb.stb)) (Gv.lst (Gs.cons (Gv.lb _ _ b8 v2) (Gs.cons (Gv.lb _ _ b9 v2) Gs.nil isLb.stb) isLb.stb) isLb.stb (by decide)) isLb.stb (by decide)) Kept.refl (fun u10 H10 k10 r10 => ?_)
        exact q u10 H10 _ (((k07.trans k8).trans k9).trans k10) r10 (by decide)
end
end K9

set_option Elab.async false
set_option linter.all false
set_option maxRecDepth 100000
set_option maxHeartbeats 800000
namespace K9
open PySem PySem.Spec PyProof.Rows L2 TL
/-! ### whole texts, line by line -/
abbrev wideL (v : Nat) : List PySem.Str := ["wide", dec v]
abbrev inL (xs : List PySem.Str) : List PySem.Str := "in" :: xs
abbrev tailZ : List PySem.Str := ["", "tell x"]
abbrev wideT (v : Nat) : PySem.Str := "wide " ++ dec v
theorem wide_spj : ∀ v, v < 13 → wideT v = spj ["wide", dec v] := by decide +kernel
theorem wide_words {v : Nat} (h : v < 13) : ∀ w ∈ (["wide", dec v] : List PySem.Str), Wt w := fun w hw => by
  simp only [List.mem_cons, List.not_mem_nil, or_false] at hw
  rcases hw with rfl | rfl
  · exact nm_wide.wt
  · exact dec_wt (by omega)
theorem wide_rows {v : Nat} (h : v < 13) : rowsS (wideT v) = [wideL v] := by
  rw [wide_spj v h, rowsS_spj (wide_words h)]
theorem due_text {v : Nat} {t1 : PySem.Str} {xs us : List PySem.Str} (v1 : 1 ≤ v) (v2 : v ≤ 12) (h1 : rowsS t1 = [inL xs]) (x4 : xs.length ≤ 4) (nm : ∀ x ∈ xs, Nm x) :
    due (rowsS (nlj (wideT v :: t1 :: us))) = dueG v ((us.map rowsS).flatten.length + 3) [] 0 (numb 3 (us.map rowsS).flatten) := by
  rw [rowsS_nlj (List.cons_ne_nil _ _), List.flatMap_cons, List.flatMap_cons, wide_rows (by omega), h1, List.flatMap_def]
  exact due_head v1 v2 x4 nm
theorem due_all {v : Nat} {t1 : PySem.Str} {xs us : List PySem.Str} (v1 : 1 ≤ v) (v2 : v ≤ 12) (h1 : rowsS t1 = [inL xs]) (x4 : xs.length ≤ 4) (nm : ∀ x ∈ xs, Nm x) (h : ∀ u ∈ us, Blk v (rowsS u)) (hu : us.length ≤ 60) :
    due (rowsS (nlj (wideT v :: t1 :: us))) = none := by
  rw [due_text v1 v2 h1 x4 nm]
  generalize (us.map rowsS).flatten.length + 3 = N
  have := blks (us.map rowsS) (fun B hB => by
    obtain ⟨u, hu, rfl⟩ := List.mem_map.mp hB
    exact h u hu) N 0 3 [] (by rw [List.length_map]; omega)
  rw [List.append_nil] at this
  rw [this]
  rfl
theorem Gd.rows {v : Nat} {u : PySem.Str} (g : Gd v u) : ∃ gw, u = spj gw ∧ rowsS u = [gw] ∧ (∀ w ∈ gw, Wt w) ∧ GoodL v gw := by
  obtain ⟨⟨gw, e, h1, h2⟩, _⟩ := g
  exact ⟨gw, e, by rw [e, rowsS_spj h1], h1, h2⟩
theorem Gd.blk {v : Nat} {u : PySem.Str} (g : Gd v u) : Blk v (rowsS u) := by
  obtain ⟨gw, _, e, _, h⟩ := g.rows
  rw [e]
  exact h.blk
theorem due_at {v n : Nat} {t1 b : PySem.Str} {xs A C : List PySem.Str} (v1 : 1 ≤ v) (v2 : v ≤ 12) (h1 : rowsS t1 = [inL xs]) (x4 : xs.length ≤ 4) (nm : ∀ x ∈ xs, Nm x) (hA : ∀ u ∈ A, Gd v u) (lA : A.length < 60) (hb : Bd v b n) :
    Far (nlj (wideT v :: t1 :: (A ++ b :: C))) (A.length + 3) n := by
  unfold Far
  rw [due_text v1 v2 h1 x4 nm]
  generalize ((A ++ b :: C).map rowsS).flatten.length + 3 = N
  obtain ⟨⟨bw, e, hn, hs⟩, _⟩ := hb
  have fl : (A.map rowsS).flatten.length = A.length := by
    clear lA
    induction A with
    | nil => rfl
    | cons a r ih =>
      obtain ⟨gw, _, e, _⟩ := (hA a List.mem_cons_self).rows
      rw [List.map_cons, List.flatten_cons, List.length_append, ih fun u hu => hA u (List.mem_cons_of_mem _ hu), e, List.length_cons]
      show 1 + r.length = r.length + 1
      omega
  rw [List.map_append, List.flatten_append, List.map_cons, List.flatten_cons, e, blks (A.map rowsS) (fun B hB => by
    obtain ⟨u, hu, rfl⟩ := List.mem_map.mp hB
    exact (hA u hu).blk) N 0 3 _ (by rw [List.length_map]; omega), fl, List.length_map, List.singleton_append, dueG_no hn (hs _ (by omega))]
  rw [Nat.add_comm]
theorem due_over {v : Nat} {t1 : PySem.Str} {xs us : List PySem.Str} (v1 : 1 ≤ v) (v2 : v ≤ 12) (h1 : rowsS t1 = [inL xs]) (x4 : xs.length ≤ 4) (nm : ∀ x ∈ xs, Nm x) (h : ∀ u ∈ us, Blk v (rowsS u)) (hu : us.length = 60) :
    Far (nlj (wideT v :: t1 :: (us ++ tailZ))) ((us.map rowsS).flatten.length + 4) 1 := by
  unfold Far
  rw [due_text v1 v2 h1 x4 nm]
  generalize ((us ++ tailZ).map rowsS).flatten.length + 3 = N
  rw [List.map_append, List.flatten_append, blks (us.map rowsS) (fun B hB => by
    obtain ⟨u, hu, rfl⟩ := List.mem_map.mp hB
    exact h u hu) N 0 3 _ (by rw [List.length_map]; omega), List.length_map, hu,
    show (tailZ.map rowsS).flatten = ([[], ["tell", "x"]] : List (List PySem.Str)) by decide +kernel, numb, if_pos rfl, dueG_no (List.cons_ne_nil _ _) (over_step (by decide +kernel) (by decide +kernel) (by omega))]
  rw [show 3 + (us.map rowsS).flatten.length + 1 = (us.map rowsS).flatten.length + 4 by omega]
theorem parts_cnt (c : Nat) : ∀ l : List Nat, (((parts c l).length : Nat) : Int) = PyProof.Rows.cnt c l + 1
  | [] => rfl
  | x :: l => by
    have ih := parts_cnt c l
    rw [PyProof.Rows.cnt_cons]
    by_cases h : x = c
    · subst h
      rw [parts_hit, if_pos rfl, List.length_cons]
      omega
    · rw [parts_miss h, if_neg h]
      unfold parts at ih
      rw [List.length_cons] at ih ⊢
      omega
theorem rows_cnt (z : PySem.Str) : Txt.count z "\n" + 1 = (((rowsS z).length : Nat) : Int) := by
  have e : ("\n" : PySem.Str) = ⟨#[10]⟩ := by decide +kernel
  rw [e, PyProof.Rows.count_is]
  rw [rowsS_L]
  unfold rowsL rows
  rw [List.length_map, List.length_map, parts_cnt]
  rfl
theorem text_same {ts : List PySem.Str} {g : Pg} (hn : ts ≠ []) (h : ∀ t ∈ ts, ∃ ws, t = spj ws ∧ ws ≠ [] ∧ ∀ w ∈ ws, Wt w) (e : linesOf (nlj ts) = g.lines) : textOf g = nlj ts := by
  obtain ⟨wss, e1, h1⟩ : ∃ wss : List (List PySem.Str), ts = wss.map spj ∧ ∀ ws ∈ wss, ws ≠ [] ∧ ∀ w ∈ ws, Wt w := by
    clear hn e
    induction ts with
    | nil => exact ⟨[], rfl, fun ws h => by cases h⟩
    | cons t r ih =>
      obtain ⟨wss, e, g⟩ := ih fun x hx => h x (List.mem_cons_of_mem _ hx)
      obtain ⟨ws, rfl, w1, w2⟩ := h t List.mem_cons_self
      refine ⟨ws :: wss, by rw [e]; rfl, fun y hy => ?_⟩
      rcases List.mem_cons.mp hy with rfl | hy
      · exact ⟨w1, w2⟩
      · exact g y hy
  subst e1
  have e2 : linesOf (nlj (wss.map spj)) = wss := by
    rw [linesOf_nlj hn (fun t ht => by
      obtain ⟨ws, hw, rfl⟩ := List.mem_map.mp ht
      exact spj_no (h1 ws hw).2)]
    clear hn e h
    induction wss with
    | nil => rfl
    | cons a r ih =>
      rw [List.map_cons, List.flatMap_cons, shown_spj (h1 a List.mem_cons_self).2 (h1 a List.mem_cons_self).1, ih fun ws hw => h1 ws (List.mem_cons_of_mem _ hw)]
      rfl
  unfold textOf
  rw [← e, e2]
/-- a drawn set row is right -/
theorem set_good {v : Nat} {x : PySem.Str} {e : Ex} (hx : Nm x) (hn : ∀ y ∈ e.names, Nm y) (ok : e.ok v) (v2 : v ≤ 12) : GoodL v ("set" :: x :: e.words) := by
  refine ⟨List.cons_ne_nil _ _, fun m hm S hS => ?_⟩
  rw [set_step hm hS]
  refine fin0 ?_
  have fx : So.fits .name x = true := hx
  have tl : 2 ^ v ≤ 4096 := Nat.pow_le_pow_right (n := 2) (i := v) (j := 12) (by decide) v2
  have nf : ∀ y ∈ e.names, So.fits .name y = true := fun y hy => hn y hy
  have kf : ∀ k lo hi, k < 4096 → lo ≤ k → k ≤ hi → So.fits (.num lo hi) (dec k) = true := fun k lo hi h1 h2 h3 => by
    show (numW lo hi (dec k)).isSome = true
    rw [numW_of h1 h2 h3]; rfl
  have ef : ∀ z ∈ exprWords, So.fits .expr z = true := fun z hz => decide_eq_true hz
  cases e with
  | num n =>
    have hk : n < 2 ^ v := ok
    show badAt [.name, .expr, .num 0 (2 ^ v - 1)] [x, "number", dec n] 2 = 0
    rw [badAt, if_pos fx, badAt, if_pos (ef _ (by decide +kernel)), badAt, if_pos (kf n 0 _ (by omega) (by omega) (by omega))]
    rfl
  | copy y =>
    show badAt [.name, .expr, .name] [x, "copy", y] 2 = 0
    rw [badAt, if_pos fx, badAt, if_pos (ef _ (by decide +kernel)), badAt, if_pos (nf y List.mem_cons_self)]
    rfl
  | two o y z =>
    have ho : o.name ∈ exprWords ∧ exS v o.name = [.name, .name] := by
      cases o <;> exact ⟨by decide +kernel, rfl⟩
    show badAt (.name :: .expr :: exS v o.name) [x, o.name, y, z] 2 = 0
    rw [ho.2, badAt, if_pos fx, badAt, if_pos (ef _ ho.1), badAt, if_pos (nf y List.mem_cons_self), badAt, if_pos (nf z (List.mem_cons_of_mem _ List.mem_cons_self))]
    rfl
  | up y k =>
    have hk : k ≤ 11 := ok
    show badAt [.name, .expr, .name, .num 0 11] [x, "up", y, dec k] 2 = 0
    rw [badAt, if_pos fx, badAt, if_pos (ef _ (by decide +kernel)), badAt, if_pos (nf y List.mem_cons_self), badAt, if_pos (kf k 0 _ (by omega) (by omega) (by omega))]
    rfl
  | down y k =>
    have hk : k ≤ 11 := ok
    show badAt [.name, .expr, .name, .num 0 11] [x, "down", y, dec k] 2 = 0
    rw [badAt, if_pos fx, badAt, if_pos (ef _ (by decide +kernel)), badAt, if_pos (nf y List.mem_cons_self), badAt, if_pos (kf k 0 _ (by omega) (by omega) (by omega))]
    rfl
  | pick c y z =>
    show badAt [.name, .expr, .name, .name, .name] [x, "pick", c, y, z] 2 = 0
    rw [badAt, if_pos fx, badAt, if_pos (ef _ (by decide +kernel)), badAt, if_pos (nf c List.mem_cons_self), badAt, if_pos (nf y (List.mem_cons_of_mem _ List.mem_cons_self)), badAt, if_pos (nf z (List.mem_cons_of_mem _ (List.mem_cons_of_mem _ List.mem_cons_self)))]
    rfl
end K9

set_option Elab.async false
set_option linter.all false
set_option maxRecDepth 100000
set_option maxHeartbeats 800000
namespace K9
open PySem PySem.Spec PyProof.Rows L2 TL
/-! ### rows at bounds -/
theorem nlj_len {ts : List PySem.Str} (h : ∀ t ∈ ts, t.length ≤ 100) (hl : ts.length ≤ 100) : (ts.map (·.length)).sum + ts.length * ("\n" : PySem.Str).length ≤ 16777216 ∧ (nlj ts).length ≤ 900000 := by
  have s : (ts.map (·.length)).sum ≤ 100 * ts.length := by
    clear hl
    induction ts with
    | nil => exact Nat.le_refl _
    | cons a r ih =>
      have := h a List.mem_cons_self
      have := ih fun t ht => h t (List.mem_cons_of_mem _ ht)
      rw [List.map_cons, List.sum_cons, List.length_cons]
      omega
  have l1 : ("\n" : PySem.Str).length = 1 := by decide +kernel
  have j := joinL_len ("\n" : PySem.Str).cps.toList (ts.map fun z => z.cps.toList)
  have e : (nlj ts).length = (joinL ("\n" : PySem.Str).cps.toList (ts.map fun z => z.cps.toList)).length := by
    rw [len_list]; unfold nlj; rw [join_list]
  have e2 : ((ts.map fun z => z.cps.toList).map (·.length)) = ts.map (·.length) := by
    rw [List.map_map]
    exact List.map_congr_left fun a _ => (len_list a).symm
  rw [e2, List.length_map, nl_list, List.length_singleton] at j
  rw [e, l1, nl_list]
  exact ⟨by omega, by omega⟩
theorem wide_gd {v : Nat} (h : v < 13) : ∃ ws, wideT v = spj ws ∧ ws ≠ [] ∧ ∀ w ∈ ws, Wt w := ⟨_, wide_spj v h, List.cons_ne_nil _ _, wide_words h⟩
theorem wide_len : ∀ v, v < 13 → (wideT v).length ≤ 100 := by decide +kernel
abbrev inZ : PySem.Str := "in a b"
abbrev abZ : List PySem.Str := ["a", "b"]
theorem in_rows : rowsS inZ = [inL abZ] := by decide +kernel
theorem in_spj : inZ = spj (inL abZ) := by decide +kernel
theorem ab_nm : ∀ x ∈ abZ, Nm x := by
  intro x hx
  have : ∀ x ∈ abZ, nameB (.str x) = true := by decide +kernel
  exact this x hx
theorem in_gd : ∃ ws, inZ = spj ws ∧ ws ≠ [] ∧ ∀ w ∈ ws, Wt w := ⟨_, in_spj, List.cons_ne_nil _ _, fun w hw => wtB_ok (List.all_eq_true.mp (show (inL abZ).all wtB = true by decide +kernel) w hw)⟩
theorem Gd.gd {v : Nat} {u : PySem.Str} (g : Gd v u) : ∃ ws, u = spj ws ∧ ws ≠ [] ∧ ∀ w ∈ ws, Wt w := by
  obtain ⟨⟨gw, e, h1, h2⟩, _⟩ := g
  exact ⟨gw, e, h2.1, h1⟩
/-- a drawn line -/
theorem line_gd {v : Nat} {x : PySem.Str} {e : Ex} (hx : Nm x) (hn : ∀ y ∈ e.names, Nm y) (ok : e.ok v) (v2 : v ≤ 12) : Gd v ("set " ++ x ++ " " ++ Txt.join " " e.words) := by
  have wt : ∀ w ∈ ("set" :: x :: e.words : List PySem.Str), Wt w := fun w hw => by
    rcases List.mem_cons.mp hw with rfl | hw
    · exact nm_set.wt
    rcases List.mem_cons.mp hw with rfl | hw
    · exact hx.wt
    · exact e.words_wt hn ok v2 w hw
  have e1 : ("set " ++ x ++ " " ++ Txt.join " " e.words : PySem.Str) = spj ("set" :: x :: e.words) := by
    rw [← mkS_of ("set " ++ x ++ " " ++ Txt.join " " e.words), ← mkS_of (spj ("set" :: x :: e.words))]
    refine congrArg mkS ?_
    have ne : ∃ a r, e.words = a :: r := by cases e <;> exact ⟨_, _, rfl⟩
    obtain ⟨a, r, ea⟩ := ne
    rw [ea, spj_cons, spj_cons, app_list, app_list, app_list, sp_list, show ("set " : PySem.Str).cps.toList = ("set" : PySem.Str).cps.toList ++ [32] by decide +kernel]
    unfold spj
    simp
  refine ⟨⟨_, e1, wt, set_good hx hn ok v2⟩, ?_⟩
  have sm := e.sm hn ok v2
  have s8 := sum_le8 sm
  have few : e.vs.length ≤ 4 := by cases e <;> simp [Ex.vs, Ex.parts]
  rw [Ex.tx] at s8
  have lw : e.words.length = e.vs.length := by rw [← Ex.tx, List.length_map]
  have j := joinL_len (" " : PySem.Str).cps.toList (e.words.map fun z => z.cps.toList)
  have e2 : ((e.words.map fun z => z.cps.toList).map (·.length)) = e.words.map (·.length) := by
    rw [List.map_map]
    exact List.map_congr_left fun a _ => (len_list a).symm
  rw [e2, List.length_map, sp_list, List.length_singleton] at j
  have jl : (Txt.join " " e.words).length = (joinL [32] (e.words.map fun z => z.cps.toList)).length := by
    rw [len_list, join_list, sp_list]
  have x8 := hx.len
  rw [PySem.Str.length_append, PySem.Str.length_append, PySem.Str.length_append, show ("set " : PySem.Str).length = 4 by decide +kernel, show (" " : PySem.Str).length = 1 by decide +kernel]
  omega
abbrev fourZ : List PySem.Str := ["tell x", "if x\nelse\nend", "round 12\nend", "set x number 0"]
theorem if_blk {v : Nat} : Blk v (["if", "x"] :: ["else"] :: ["end"] :: []) := fun N m k R hm => by
  rw [List.cons_append, List.cons_append, List.cons_append, List.nil_append, dueG_ok (List.cons_ne_nil _ _) ((if_step hm (by decide)).trans (fin0 (by decide +kernel))), dueG_ok (S' := [.els]) (m' := m + 1) (List.cons_ne_nil _ _) rfl, dueG_ok (S' := []) (m' := m + 1) (List.cons_ne_nil _ _) rfl]
  rfl
theorem rnd_blk {v : Nat} : Blk v (["round", "12"] :: ["end"] :: []) := fun N m k R hm => by
  rw [List.cons_append, List.cons_append, List.nil_append, dueG_ok (List.cons_ne_nil _ _) ((rnd_step hm (by decide) (by decide)).trans (fin0 (by decide +kernel))), dueG_ok (S' := []) (m' := m + 1) (List.cons_ne_nil _ _) rfl]
  rfl
theorem four_blk {v : Nat} (hv : v ≤ 12) : ∀ z ∈ fourZ, Blk v (rowsS z) ∧ z.length ≤ 100 := fun z hz => by
  simp only [fourZ, List.mem_cons, List.not_mem_nil, or_false] at hz
  rcases hz with rfl | rfl | rfl | rfl
  · refine ⟨?_, by decide +kernel⟩
    rw [show rowsS "tell x" = ([["tell", "x"]] : List (List PySem.Str)) by decide +kernel]
    exact (tell_good nm_x).blk
  · refine ⟨?_, by decide +kernel⟩
    rw [show rowsS "if x\nelse\nend" = ((["if", "x"] :: ["else"] :: ["end"] :: []) : List (List PySem.Str)) by decide +kernel]
    exact if_blk
  · refine ⟨?_, by decide +kernel⟩
    rw [show rowsS "round 12\nend" = ((["round", "12"] :: ["end"] :: []) : List (List PySem.Str)) by decide +kernel]
    exact rnd_blk
  · exact ⟨(lb_all lb_consts.1 hv).1.blk, by decide +kernel⟩
end K9

set_option Elab.async false
set_option linter.all false
set_option maxRecDepth 100000
set_option maxHeartbeats 1600000
namespace K9
open PySem PySem.Spec PyProof.Rows L2 TL
abbrev sLRowsRight : Stmt := top 46
theorem scLRowsRight : FnScope ["draw", "wide", "lines", "k", "at", "good", "bad", "place", "some", "found", "many", "part"] ["draw"] (defScope sLRowsRight) := ⟨rfl, rfl, rfl, by decide +kernel, rfl, by decide +kernel, by decide +kernel⟩
def spDr1 : Sp := fun vs H Q _ => ∃ (d c : Addr) (ns : List Int) (n : Nat), vs = [.ref d] ∧ Dr H d c ns n ∧ n ≤ 500000000 ∧ ∀ H', Kept (At d) H H' → Dr H' d c ns (n + 10000) → Q (.bl true) H'
theorem Gv.catVN {Hb : Hp} {σ : L2.St} {ta tb : TE} {xs ys : List V} (ga : Gv Hb ta σ (isV xs)) (gb : Gv Hb tb σ (isV ys)) (hl : xs.length + ys.length ≤ sizeLine) : Gv Hb (tOp rCat ta tb) σ (isNw Hb (isV (xs ++ ys))) := fun H Q k q =>
  ga H _ k fun v H1 k1 ⟨p, e, hp⟩ => gb H1 _ (k.trans k1) fun u H2 k2 ⟨p2, e2, hp2⟩ => ⟨p, p2, xs, ys, e, e2, k2.lst hp (fun z => z), hp2, hl, fun r hr => q (.ref r) _ ((k1.trans k2).trans (Kept.refl.new hr)) ⟨⟨r, rfl, upd_same⟩, r, rfl, (k.trans (k1.trans k2)).free hr⟩⟩
theorem Gv.strV {Hb : Hp} {σ : L2.St} {i v : Nat} (h : σ[i]? = some (some (.int (v : Int)))) (hv : v < 4096) : Gv Hb (tCB rStrB (tCons (tVar i) tNil)) σ (isC (.str (dec v))) := fun H _ _ q => ⟨_, h, .inr ⟨(v : Int), rfl, sm_log hv, q _ H Kept.refl rfl⟩⟩
theorem Gv.lst2N {Hb : Hp} {σ : L2.St} {ta tb : TE} {x y : V} (ga : Gv Hb ta σ (isC x)) (gb : Gv Hb tb σ (isC y)) : Gv Hb (tLst (tCons ta (tCons tb tNil))) σ (isNw Hb (isV [x, y])) := fun H Q k q =>
  ga H _ k fun v H1 k1 e1 => gb H1 _ (k.trans k1) fun u H2 k2 e2 => ⟨(show 2 ≤ sizeLine by decide), fun p hp => by
    cases e1
    cases e2
    exact q (.ref p) _ ((k1.trans k2).trans (Kept.refl.new hp)) ⟨⟨p, rfl, upd_same⟩, p, rfl, (k.trans (k1.trans k2)).free hp⟩⟩
theorem nx_go {X b c : L2.St → Hp → Prop} {r : VK} {σ : L2.St} {H : Hp} (h : X σ H) : (Ends.mk X r b c).nx σ H := h
def lenAt (H : Hp) (p : Addr) : Nat := match H p with
  | some (.lst xs) => xs.length
  | _ => 0
section
variable {P : Program} {w : World} {K : PySem.W.Frag} {mg : PySem.Str → Option Value} {base : Heap} {f : Addr} {fd : FuncData}
theorem ok_rowsR (F : FnP K "_law_rows_right" sLRowsRight f fd) (dN : Def P w K mg base 2 "_law_next" ["draw", "many"] spNext) (dM : Def P w K mg base 3 "_law_name" ["draw"] spLName) (dE : Def P w K mg base 4 "_law_expr" ["draw", "wide"] spLExpr) (dB : Def P w K mg base 1 "_law_lines_beyond" ["wide"] spBeyond)
    (dS : Def P w K mg base 25 "_law_said" ["text"] (spSaid K)) (dT : Def P w K mg base 17 "program_text" ["program"] (spPText K)) (m_range : mg "range" = none) (m_str : mg "str" = none) (m_len : mg "len" = none) (m_isinstance : mg "isinstance" = none) (m_tuple : mg "tuple" = none) : FnOk P w K mg base CX0 26 f fd ["draw"] spDr1 := by
  obtain ⟨fN, fdN, GN, bN, kN, gN⟩ := dN
  obtain ⟨fM, fdM, GM, bM, kM, gM⟩ := dM
  obtain ⟨fE, fdE, GE, bE, kE, gE⟩ := dE
  obtain ⟨fB, fdB, GB, bB, kB, gB⟩ := dB
  obtain ⟨fS, fdS, GS, bS, kS, gS⟩ := dS
  obtain ⟨fT, fdT, GT, bT, kT, gT⟩ := dT
  refine F.ok (k := 25) scLRowsRight (fun vs H Q E h => ?_) (fun cdv A0 outer s H vs Q E hr h => ?_)
  · obtain ⟨d, c, ns, n, rfl, _⟩ := h
    rfl
  · obtain ⟨d, c, ns, n, rfl, D0, hn, q⟩ := h
    have GN := GN.mono (show 2 ≤ 25 by decide)
    have GM := GM.mono (show 3 ≤ 25 by decide)
    have GE := GE.mono (show 4 ≤ 25 by decide)
    have GB := GB.mono (show 1 ≤ 25 by decide)
    have GT := GT.mono (show 17 ≤ 25 by decide)
    refine ⟨_, PSs.nox (pss_cons (ps_set (i := 1) scLRowsRight.nd rfl (Or.inl rfl) (pe_ix ix_list (pe_lst (pa_cons pe_int (pa_cons pe_int (pa_cons (pe_op op_add pe_int (pe_call GN hr (by rfl) gN kN bN .nil pass0 (pa_cons (pv 0) (pa_cons pe_int pa_nil)))) pa_nil)))) (pe_call GN hr (by rfl) gN kN bN .nil pass0 (pa_cons (pv 0) (pa_cons pe_int pa_nil))) (fun _ _ => rfl)))
    (pss_cons (ps_set (i := 2) scLRowsRight.nd rfl (Or.inl rfl) (pe_lst (pa_cons (pe_op op_add_str pe_str (pe_callTy call_strB (by rfl) m_str (by decide +kernel) (pa_cons (pv 1) pa_nil))) (pa_cons pe_str pa_nil))))
    (pss_cons (ps_for PassesOwn.never rfl (pi_range1 rfl m_range (pa_cons (pe_op op_add pe_int (pe_call GN hr (by rfl) gN kN bN .nil pass0 (pa_cons (pv 0) (pa_cons pe_int pa_nil)))) pa_nil)) (pg_name (i := 3) scLRowsRight.nd rfl (Or.inl rfl))
      (pss_one (ps_expr (pe_bm PySem.F.plainAttrs_list PySem.F.slot_list_append PySem.F.type_list_append mt_append (pv 2) (pa_cons (pe_op op_add_str (pe_op op_add_str (pe_op op_add_str pe_str (pe_call GM hr (by rfl) gM kM bM .nil pass0 (pa_cons (pv 0) pa_nil))) pe_str) (pe_join pe_str (pe_lc (own := [("part", 11)]) (g := gName 11) (tt := tYes) (te := tCB rStrB (tCons (tVar 11) tNil)) rfl scLRowsRight.nd (pi_tup (pe_call GE hr (by rfl) gE kE bE .nil pass0 (pa_cons (pv 0) (pa_cons (pv 1) pa_nil)))) (blkOk_by (own := [("part", 11)]) (N := ["draw", "wide", "lines", "k", "at", "good", "bad", "place", "some", "found", "many", "part"]) (sc := defScope sLRowsRight) (by decide +kernel)) (by exact (fun _ _ _ _ _ => (pg_name (i := 11) scLRowsRight.nd rfl (Or.inl rfl)))) (by exact (fun _ _ _ _ _ => pts_nil)) (by exact (fun _ _ _ _ _ => (pe_callTy call_strB (by rfl) m_str (by decide +kernel) (pa_cons (pv 11) pa_nil))))))) pa_nil)))))
    (pss_cons (ps_set (i := 4) scLRowsRight.nd rfl (Or.inl rfl) (pe_op op_add pe_int (pe_call GN hr (by rfl) gN kN bN .nil pass0 (pa_cons (pv 0) (pa_cons (pe_op op_sub (pe_callB call_len_seq (by rfl) m_len PySem.boot_len (pa_cons (pv 2) pa_nil)) pe_int) pa_nil)))))
    (pss_cons (ps_for PassesOwn.never rfl (pi_list (pe_call GB hr (by rfl) gB kB bB .nil pass0 (pa_cons (pv 1) pa_nil))) (pg_tup rfl (pgs_cons (pg_name (i := 5) scLRowsRight.nd rfl (Or.inl rfl)) (pgs_cons (pg_name (i := 6) scLRowsRight.nd rfl (Or.inl rfl)) (pgs_cons (pg_name (i := 7) scLRowsRight.nd rfl (Or.inl rfl)) pgs_nil))))
      (pss_cons (ps_set (i := 8) scLRowsRight.nd rfl (Or.inl rfl) (pe_op op_cat (pe_op op_cat (pe_slice sl_list (pv 2) po_none (po_some (pv 4))) (pe_lst (pa_cons (pv 5) pa_nil))) (pe_slice sl_list (pv 2) (po_some (pe_op op_add (pv 4) pe_int)) po_none)))
      (pss_cons (ps_set (i := 9) scLRowsRight.nd rfl (Or.inl rfl) (pe_call GS hr (by rfl) gS kS bS .nil pass0 (pa_cons (pe_join pe_str (pv 8)) pa_nil)))
      (pss_cons (ps_if (PW.pt (pw_or (pt_not (pt_val (pe_callB RZ.call_isTy (by rfl) m_isinstance (by decide +kernel) (pa_cons (pv 9) (pa_cons (pe_bltn (v := .ty "tuple") (by rfl) m_tuple (by decide +kernel) rfl) pa_nil))))) (pw_or1 (pt_cmpR op_ne (pe_call GT hr (by rfl) gT kT bT .nil pass0 (pa_cons (pv 9) pa_nil)) (pe_join pe_str (pv 8)) (nomark _)))))
        (pss_one (ps_ret pe_bl))
        pss_nil)
      (pss_cons (ps_asg (pv 6) (pg_sub (pv 8) (pv 4) set_list))
      (pss_one (ps_if (pt_cmpR (op_neD hr.units) (pe_call GS hr (by rfl) gS kS bS .nil pass0 (pa_cons (pe_join pe_str (pv 8)) pa_nil)) (pe_lst (pa_cons (pe_op op_add (pv 4) pe_int) (pa_cons (pv 7) pa_nil))) (nomark _))
        (pss_one (ps_ret pe_bl))
        pss_nil)))))))
    (pss_cons (ps_while PassesOwn.never (pt_cmpR op_lt (pe_callB call_len_seq (by rfl) m_len PySem.boot_len (pa_cons (pv 2) pa_nil)) pe_int (nomark _))
      (pss_one (ps_expr (pe_bm PySem.F.plainAttrs_list PySem.F.slot_list_insert PySem.F.type_list_insert mt_insert (pv 2) (pa_cons (pv 4) (pa_cons (pe_ix ix_list (pe_lst (pa_cons pe_str (pa_cons pe_str (pa_cons pe_str (pa_cons pe_str pa_nil))))) (pe_call GN hr (by rfl) gN kN bN .nil pass0 (pa_cons (pv 0) (pa_cons pe_int pa_nil))) (fun _ _ => rfl)) pa_nil))))))
    (pss_cons (ps_set (i := 10) scLRowsRight.nd rfl (Or.inl rfl) (pe_op op_add (pe_m1 PySem.F.slot_str_count PySem.F.type_str_count mt_count (pe_join pe_str (pv 2)) pe_str) pe_int))
    (pss_cons (ps_if (pt_not (pt_val (pe_callB RZ.call_isTy (by rfl) m_isinstance (by decide +kernel) (pa_cons (pe_call GS hr (by rfl) gS kS bS .nil pass0 (pa_cons (pe_join pe_str (pv 2)) pa_nil)) (pa_cons (pe_bltn (v := .ty "tuple") (by rfl) m_tuple (by decide +kernel) rfl) pa_nil)))))
      (pss_one (ps_ret pe_bl))
      pss_nil)
    (pss_one (ps_ret (pe_cmpR (op_eqD hr.units) (pe_call GS hr (by rfl) gS kS bS .nil pass0 (pa_cons (pe_join pe_str (pe_op op_cat (pv 2) (pe_lst (pa_cons pe_str (pa_cons pe_str pa_nil))))) pa_nil)) (pe_lst (pa_cons (pe_op op_add (pv 10) pe_int) (pa_cons pe_int pa_nil))) (nomark _)))))))))))), ?_⟩
    have szl := sizeLine_eq
    refine seq_asg ?_
    refine ⟨.ref d, rfl, d, c, ns, n, 12, rfl, D0, by omega, by decide, by decide, fun r1 H1 a1 b1 k1 D1 => ?_⟩
    refine ⟨1, r1, rfl, rfl, (show 3 ≤ sizeLine by decide), fun p1 hp1 => ?_⟩
    refine ⟨.ref d, rfl, d, c, ns, _, 3, rfl, D1.new hp1, by omega, by decide, by decide, fun r2 H2 a2 b2 k2 D2 => ?_⟩
    obtain ⟨y, hy, v, rfl, v1, v2⟩ : ∃ x, atI [V.int 1, .int 12, .int (1 + r1)] r2 = some x ∧ ∃ m : Nat, x = .int (m : Int) ∧ 1 ≤ m ∧ m ≤ 12 := at_nat (m := 3) a2 b2 rfl _ (fun x hx => by
      simp only [List.mem_cons, List.not_mem_nil, or_false] at hx
      rcases hx with rfl | rfl | rfl
      · exact ⟨1, rfl, by decide, by decide⟩
      · exact ⟨12, rfl, by decide, by decide⟩
      · exact ⟨(1 + r1).toNat, by rw [Int.toNat_of_nonneg (by omega)], by omega, by omega⟩)
    refine ⟨p1, _, r2, .int (v : Int), rfl, rfl, SqL.of (k2.lst upd_same (D1.apart hp1)), hy, ?_⟩
    have kA : Kept (At d) H H2 := (k1.nu D1 hp1).trans k2
    clear hy k1 k2 D1
    have dl := wide_len v (by omega)
    refine after_set (v := .int (v : Int)) ?_
    refine Gv.run (Hb := H2) (Gv.lst2N (Gv.addC (Gc.gv Gc.c) (Gv.strV (v := v) rfl (by omega)) (by have := (dec_num (show v < 4096 by omega)).2; rw [show ("wide " : PySem.Str).length = 5 by decide +kernel]; omega)) (Gc.gv Gc.c)) Kept.refl (fun u3 H3 k3 r3 => ?_)
    obtain ⟨⟨L0, rfl, eL0⟩, _, e3, nL2⟩ := r3
    cases e3
    have D3 := D2.stay k3
    have kB := kA.trans (k3.weak fun _ z => z.elim)
    have nL : H L0 = none := At.free kA D2 nL2
    have Ld : ¬ L0 = d := D2.apart nL2
    have Lc := D2.apartC nL2
    refine after_any (v := .ref L0) ?_
    refine ⟨.ref d, rfl, d, c, ns, _, 59, rfl, D3, by omega, by decide, by decide, fun r4 H4 a4 b4 k4 D4 => ?_⟩
    obtain ⟨r4, rfl⟩ := Int.eq_ofNat_of_zero_le a4
    refine ⟨1, (r4 : Int), rfl, rfl, (1 : Int) + (r4 : Int), rfl, by omega, by omega, ?_⟩
    have kC := kB.trans k4
    have eL4 := k4.lst eL0 Ld
    clear kA kB k3 k4 D2 D3 eL0
    refine for_range (lo := 0) (n := 1 + r4) (fun i σ H' => Kept (At d) H H' ∧ Dr H' d c ns (n + 3 + 61 * i) ∧ (∃ us : List PySem.Str, us.length = i ∧ (∀ u ∈ us, Gd v u) ∧ H' L0 = some (.lst ((wideT v :: inZ :: us).map V.str))) ∧ ∃ y3 y4 y5 y6 y7 y8 y9 y10 y11, σ = [some (.ref d), some (.int (v : Int)), some (.ref L0), y3, y4, y5, y6, y7, y8, y9, y10, y11])
      ⟨kC, D4, ⟨[], rfl, fun u h => (by cases h), eL4⟩, _, _, _, _, _, _, _, _, _, rfl⟩ (fun i σ H5 hi h => ?_) (fun σ H5 h => ?_)
    · obtain ⟨k5, D5, ⟨us, lu, gu, e5⟩, y3, y4, y5, y6, y7, y8, y9, y10, y11, rfl⟩ := h
      refine ⟨.ref L0, rfl, .inl ⟨rfl, _, SqL.of e5⟩, ?_⟩
      refine ⟨.ref d, rfl, d, c, ns, _, rfl, D5, by omega, fun x H6 nx k6 D6 => ?_⟩
      have x8 := nx.len
      have ls : ("set " : PySem.Str).length = 4 := by decide +kernel
      have lb : (" " : PySem.Str).length = 1 := by decide +kernel
      refine ⟨"set ", x, rfl, rfl, by omega, ?_⟩
      refine ⟨"set " ++ x, " ", rfl, rfl, by rw [PySem.Str.length_append]; omega, ?_⟩
      refine ⟨⟨" ", rfl⟩, .ref d, rfl, .int (v : Int), rfl, d, c, ns, _, v, rfl, D6, by omega, v1, v2, fun e p7 H7 ok en k7 D7 ep7 => ⟨p7, rfl, ⟨_, SqT.of ep7⟩, fun J hJ => ?_⟩⟩
      have sm := e.sm en ok v2
      have few : e.vs.length ≤ 4 := by cases e <;> simp [Ex.vs, Ex.parts]
      have gl := line_gd nx en ok v2
      refine lc_tup (K := K) (a := p7) (xs := e.vs) (fun i H' => Kept None H7 H' ∧ H' J = some (.lst (((e.vs.take i).map txV).map V.str))) ⟨Kept.refl.new hJ, upd_same⟩ (fun i H' _ h => SqT.of (h.1.tup ep7 fun z => z)) (fun i x H' hx h => ?_) (fun H8 h => ?_)
      · obtain ⟨m1, m2⟩ := h
        have sx := sm x (List.mem_of_getElem? hx)
        refine ⟨rfl, ?_⟩
        unfold tYes
        dsimp only
        rw [if_pos rfl]
        refine ⟨x, rfl, ?_⟩
        unfold tNil
        refine sx.str ⟨_, m2, ?_, fun b o e n => ?_, ?_⟩
        · rw [List.length_map, List.length_map, List.length_take]; omega
        · rw [upd_ne (ne_of_none e hJ)]
          exact m1 b o e n
        · rw [upd_same, List.take_add_one, hx, List.map_append, List.map_append]
          rfl
      · obtain ⟨m1, m2⟩ := h
        rw [List.take_length, Ex.tx] at m2
        have s8 := sum_le8 sm
        rw [Ex.tx] at s8
        have lw : e.words.length = e.vs.length := by rw [← Ex.tx, List.length_map]
        refine ⟨" ", J, e.words, rfl, rfl, .inl (SqL.of m2), by rw [lb]; omega, ?_⟩
        have gl100 := gl.2
        rw [PySem.Str.length_append] at gl100
        refine ⟨"set " ++ x ++ " ", Txt.join " " e.words, rfl, rfl, by omega, ?_⟩
        have k8 : Kept (At d) H5 H8 := (k6.trans k7).trans (m1.weak fun _ z => z.elim)
        have e8 := k8.lst e5 Ld
        have D8 := D7.stay m1
        refine ⟨L0, _, _, rfl, rfl, e8, by rw [List.length_map, List.length_cons, List.length_cons]; omega, ?_⟩
        refine ⟨(k5.trans k8).drop nL (Kept.refl.upd (.inr rfl)), (D8.keep Ld Lc).more (by omega), ⟨us ++ ["set " ++ x ++ " " ++ Txt.join " " e.words], by rw [List.length_append, lu]; rfl, fun u hu => ?_, ?_⟩, _, _, _, _, _, _, _, _, _, rfl⟩
        · rcases List.mem_append.mp hu with h | h
          · exact gu u h
          · rw [List.mem_singleton.mp h]; exact gl
        · rw [upd_same]
          exact congrArg (fun l => some (HO.lst l)) (by rw [← List.cons_append, ← List.cons_append, List.map_append]; rfl)
    · obtain ⟨k5, D5, ⟨us, lu, gu, e5⟩, y3, y4, y5, y6, y7, y8, y9, y10, y11, rfl⟩ := h
      clear kC D4 eL4
      refine nx_go ?_
      refine seq_asg ?_
      refine ⟨.ref d, rfl, .ref L0, rfl, L0, _, rfl, .inl (SqL.of e5), (((wideT v :: inZ :: us).map V.str).length : Int), 2, rfl, rfl, d, c, ns, _, _, rfl, D5, by omega, ?_, ?_, fun r6 H6 a6 b6 k6 D6 => ?_⟩
      · simp only [List.length_map, List.length_cons]; omega
      · simp only [List.length_map, List.length_cons]; omega
      obtain ⟨j, rfl⟩ := Int.eq_ofNat_of_zero_le a6
      have hj : j < us.length := by
        simp only [List.length_map, List.length_cons] at b6; omega
      refine ⟨2, (j : Int), rfl, rfl, ?_⟩
      refine after_any (v := .int (2 + (j : Int))) ?_
      have kD := k5.trans k6
      have e6 := k6.lst e5 Ld
      clear k5 k6 D5 e5 b6
      refine ⟨.int (v : Int), rfl, v, rfl, v1, v2, fun u7 H7 jj k7 isl jle => ?_⟩
      obtain ⟨A, xs, rfl, eA, lA, rA⟩ := isl
      have kE := kD.trans (k7.weak fun _ z => z.elim)
      have D7 := D6.stay k7
      have e7 := k7.lst e6 fun z => z
      clear kD k7 D6 e6
      refine ⟨A, rfl, ⟨_, SqL.of eA⟩, ?_⟩
      refine for_list (K := K) (a := A) (xs := xs) (fun i σ H' => Kept None H7 H' ∧ ∃ y3 y5 y6 y7 y8 y9 y10 y11, σ = [some (.ref d), some (.int (v : Int)), some (.ref L0), y3, some (.int (2 + (j : Int))), y5, y6, y7, y8, y9, y10, y11])
        ⟨Kept.refl, _, _, _, _, _, _, _, _, rfl⟩ (fun i σ H' _ h => SqL.of (h.1.lst eA (fun z => z))) (fun i x σ H8 hx h => ?_) (fun σ H8 h => ?_)
      · obtain ⟨k8, y3, y5, y6, y7, y8, y9, y10, y11, rfl⟩ := h
        obtain ⟨g, b, pl, ⟨a, rfl, ea⟩, dg, db⟩ := rA x (List.mem_of_getElem? hx)
        have ea8 := k8.tup ea fun z => z
        refine ⟨a, _, rfl, SqT.of ea8, rfl, ?_⟩
        refine ⟨_, _, rfl, _, _, rfl, _, _, rfl, rfl, ?_⟩
        have e8 := k8.lst e7 fun z => z
        refine seq_asg ?_
        have cL := cutV_length ((wideT v :: inZ :: us).map V.str) none (some (2 + (j : Int)))
        have cR := cutV_length ((wideT v :: inZ :: us).map V.str) (some (2 + (j : Int) + 1)) none
        have tsl : ((wideT v :: inZ :: us).map V.str).length ≤ 62 := by simp only [List.length_map, List.length_cons]; omega
        refine Gv.run (Hb := H8) (Gv.catVN (Gv.cat (Gv.slice (K := K) (Gv.varV rfl e8) Pt.none (Pt.var (j := 2 + (j : Int)) rfl)) (Gv.lstC (vs := [.str g]) (Gcs.cons (Gc.var rfl) Gcs.nil) (show 1 ≤ sizeLine by decide)) (by show _ + 1 ≤ _; omega)) (Gv.slice (K := K) (Gv.varV rfl e8) (Pt.succ (j := 2 + (j : Int)) rfl) Pt.none) (by rw [List.length_append]; show _ + 1 + _ ≤ _; omega)) Kept.refl (fun u9 H9 k9 r9 => ?_)
        obtain ⟨⟨S, rfl, eS⟩, _, eS2, nS⟩ := r9
        cases eS2
        have tk : cutV ((wideT v :: inZ :: us).map V.str) none (some (2 + (j : Int))) ++ [V.str g] ++ cutV ((wideT v :: inZ :: us).map V.str) (some (2 + (j : Int) + 1)) none = (wideT v :: inZ :: (us.take j ++ g :: us.drop (j + 1))).map V.str := by
          rw [show (2 : Int) + (j : Int) = ((j + 2 : Nat) : Int) by omega, show ((j + 2 : Nat) : Int) + 1 = ((j + 3 : Nat) : Int) by omega, cut_to, cut_from, ← List.map_take, ← List.map_drop]
          show (wideT v :: inZ :: us.take j).map V.str ++ [V.str g] ++ (us.drop (j + 1)).map V.str = _
          rw [← List.cons_append, ← List.cons_append, List.map_append, List.append_assoc]
          rfl
        rw [tk] at eS
        clear tk cL cR tsl
        have gA : ∀ u ∈ us.take j, Gd v u := fun u hu => gu u (List.mem_of_mem_take hu)
        have gC : ∀ u ∈ us.drop (j + 1), Gd v u := fun u hu => gu u (List.mem_of_mem_drop hu)
        have lA2 : (us.take j).length = j := by rw [List.length_take]; omega
        have lC2 : (us.drop (j + 1)).length + j + 1 = us.length := by rw [List.length_drop]; omega
        have us60 : us.length ≤ 60 := by omega
        generalize us.take j = A1 at eS gA lA2
        generalize us.drop (j + 1) = C1 at eS gC lC2
        have gAll : ∀ u ∈ A1 ++ g :: C1, Gd v u := fun u hu => by
          rcases List.mem_append.mp hu with h | h
          · exact gA u h
          rcases List.mem_cons.mp h with rfl | h
          · exact dg
          · exact gC u h
        have lAll : (A1 ++ g :: C1).length ≤ 60 := by rw [List.length_append, List.length_cons]; omega
        have nl := nlj_len (ts := wideT v :: inZ :: (A1 ++ g :: C1)) (fun t ht => by
          rcases List.mem_cons.mp ht with rfl | ht
          · exact dl
          rcases List.mem_cons.mp ht with rfl | ht
          · decide +kernel
          · exact (gAll t ht).2) (by rw [List.length_cons, List.length_cons]; omega)
        have d0 := due_all (us := A1 ++ g :: C1) v1 v2 in_rows (by decide) ab_nm (fun u hu => (gAll u hu).blk) lAll
        refine after_set (v := .ref S) ?_
        refine call_g (Gv.join (Gv.varV rfl eS) nl.1) Kept.refl fun H10 k10 => said_good d0 nl.2 fun p g2 H11 k11 pg fg hl => ?_
        refine after_any (v := .ref p) ?_
        have ts := text_same (g := g2) (List.cons_ne_nil _ _) (fun t ht => by
          rcases List.mem_cons.mp ht with rfl | ht
          · exact wide_gd (by omega)
          rcases List.mem_cons.mp ht with rfl | ht
          · exact in_gd
          · exact (gAll t ht).gd) hl
        obtain ⟨q1, q2, rs, hp, h1, h2, it⟩ := pg
        refine ⟨.ref p, rfl, .ref p, "tuple", rfl, .tup hp, _, rfl, iteF ?_⟩
        refine ⟨.ref p, rfl, p, g2, rfl, ⟨q1, q2, rs, hp, h1, h2, it⟩, fg, fun H12 k12 => ?_⟩
        have kS := (k10.trans k11).trans k12
        have eS12 := kS.lst eS fun z => z
        refine ⟨⟨_, rfl⟩, .ref S, rfl, "\n", S, wideT v :: inZ :: (A1 ++ g :: C1), rfl, rfl, .inl (SqL.of eS12), nl.1, rfl, _, rfl, ?_⟩
        rw [decide_eq_true (show V.str (textOf g2) = V.str (Txt.join "\n" (wideT v :: inZ :: (A1 ++ g :: C1))) from congrArg V.str ts)]
        refine iteF ?_
        refine ⟨.str b, rfl, .ref S, rfl, .int (2 + (j : Int)), rfl, S, _, (2 + (j : Int)), j + 2, rfl, rfl, eS12, ?_, ?_⟩
        · unfold ixN
          rw [if_pos (by omega), if_pos (by simp only [List.length_map, List.length_cons, List.length_append]; omega)]
          rw [show (2 : Int) + (j : Int) = ((j + 2 : Nat) : Int) by omega]
          rfl
        have est : ((wideT v :: inZ :: (A1 ++ g :: C1)).map V.str).set (j + 2) (.str b) = (wideT v :: inZ :: (A1 ++ b :: C1)).map V.str := by
          rw [← List.map_set]
          show (wideT v :: inZ :: (A1 ++ g :: C1).set j b).map V.str = _
          rw [List.set_append_right _ _ (by omega), lA2, Nat.sub_self]
          rfl
        rw [est]
        have k13 : Kept (fun x => x = S) H12 (upd H12 S (.lst ((wideT v :: inZ :: (A1 ++ b :: C1)).map V.str))) := Kept.refl.upd rfl
        have eS13 : upd H12 S (.lst ((wideT v :: inZ :: (A1 ++ b :: C1)).map V.str)) S = some (.lst ((wideT v :: inZ :: (A1 ++ b :: C1)).map V.str)) := upd_same
        generalize upd H12 S (.lst ((wideT v :: inZ :: (A1 ++ b :: C1)).map V.str)) = H13 at k13 eS13 ⊢
        have kF := Kept.mine ((k8.trans k9).trans kS) (k8.free nS) k13
        have db' := due_at (C := C1) (t1 := inZ) v1 v2 in_rows (by decide) ab_nm gA (by omega) db
        have nl2 := nlj_len (ts := wideT v :: inZ :: (A1 ++ b :: C1)) (fun t ht => by
          rcases List.mem_cons.mp ht with rfl | ht
          · exact dl
          rcases List.mem_cons.mp ht with rfl | ht
          · decide +kernel
          rcases List.mem_append.mp ht with h | h
          · exact (gA t h).2
          rcases List.mem_cons.mp h with rfl | h
          · exact db.2
          · exact (gC t h).2) (by rw [List.length_cons, List.length_cons, List.length_append, List.length_cons]; omega)
        refine neq_bad (Gv.join (Gv.varV rfl eS13) nl2.1) (Gv.two (x := .int ((A1.length + 3 : Nat) : Int)) (fun H Q q => ⟨.int (2 + (j : Int)), rfl, 2 + (j : Int), 1, rfl, rfl, ?_⟩) (Gc.var rfl)) Kept.refl db' nl2.2 fun H14 k14 => ⟨_, rfl, iteF ?_⟩
        · show Q (.int (2 + (j : Int) + 1)) H
          rw [show (2 : Int) + (j : Int) + 1 = ((A1.length + 3 : Nat) : Int) by omega]
          exact q
        · exact ⟨kF.trans k14, _, _, _, _, _, _, _, _, rfl⟩
      · obtain ⟨k8, y3, y5, y6, y7, y8, y9, y10, y11, rfl⟩ := h
        refine nx_go ?_
        have kG := kE.trans (k8.weak fun _ z => z.elim)
        have D8 := D7.stay k8
        have e8 := k8.lst e7 fun z => z
        clear kE k8 D7 e7 eA rA
        refine while_by (fun σ H' => Kept (At d) H H' ∧ (∃ (m : Nat) (us : List PySem.Str), Dr H' d c ns m ∧ m ≤ n + 5000 + us.length ∧ j ≤ us.length ∧ us.length ≤ 60 ∧ (∀ u ∈ us, Blk v (rowsS u) ∧ u.length ≤ 100) ∧ H' L0 = some (.lst ((wideT v :: inZ :: us).map V.str))) ∧ ∃ y3 y5 y6 y7 y8 y9 y10 y11, σ = [some (.ref d), some (.int (v : Int)), some (.ref L0), y3, some (.int (2 + (j : Int))), y5, y6, y7, y8, y9, y10, y11])
          (fun σ H' => 62 - lenAt H' L0) ⟨kG, ⟨_, us, D8, by omega, by omega, by omega, fun u hu => ⟨(gu u hu).blk, (gu u hu).2⟩, e8⟩, _, _, _, _, _, _, _, _, rfl⟩ (fun σ H9 h => ?_) (fun σ H' Q Q' hQ h => ?_)
        · obtain ⟨k9, ⟨m, ts, D9, hm, hj2, h60, hb, e9⟩, y3, y5, y6, y7, y8, y9, y10, y11, rfl⟩ := h
          refine ⟨.ref L0, rfl, L0, _, rfl, .inl (SqL.of e9), ?_⟩
          have tl : ((wideT v :: inZ :: ts).map V.str).length = ts.length + 2 := by simp only [List.length_map, List.length_cons]
          rw [tl]
          refine ⟨((ts.length + 2 : Nat) : Int), 62, rfl, rfl, _, rfl, ite2 (fun e => ?_) (fun e => ?_)⟩
          · have e62 : ((ts.length + 2 : Nat) : Int) < 62 := of_decide_eq_true e
            refine ⟨.ref L0, rfl, .inl ⟨rfl, _, SqL.of e9⟩, .int (2 + (j : Int)), rfl, (show 4 ≤ sizeLine by decide), fun p10 hp10 => ?_⟩
            have k10 : Kept None H9 (upd H9 p10 (.lst [.str "tell x", .str "if x\nelse\nend", .str "round 12\nend", .str "set x number 0"])) := Kept.refl.new hp10
            have e10 : upd H9 p10 (.lst [.str "tell x", .str "if x\nelse\nend", .str "round 12\nend", .str "set x number 0"]) p10 = some (.lst (fourZ.map V.str)) := upd_same
            have D10 := D9.stay k10
            have p10d := D9.apart hp10
            generalize upd H9 p10 (.lst [.str "tell x", .str "if x\nelse\nend", .str "round 12\nend", .str "set x number 0"]) = H10 at k10 e10 D10 ⊢
            refine ⟨.ref d, rfl, d, c, ns, _, 4, rfl, D10, by omega, by decide, by decide, fun r11 H11 a11 b11 k11 D11 => ?_⟩
            obtain ⟨y, hy, z, rfl, hz⟩ : ∃ x, atI (fourZ.map V.str) r11 = some x ∧ ∃ z, x = .str z ∧ z ∈ fourZ := at_nat (m := 4) a11 b11 rfl _ (fun x hx => by
              obtain ⟨z, hz, rfl⟩ := List.mem_map.mp hx
              exact ⟨z, rfl, hz⟩)
            refine ⟨p10, _, r11, .str z, rfl, rfl, SqL.of (k11.lst e10 p10d), hy, ?_⟩
            have k911 : Kept (At d) H9 H11 := (k10.weak fun _ z => z.elim).trans k11
            have e11 := k911.lst e9 Ld
            refine ⟨L0, _, 2 + (j : Int), .str z, rfl, rfl, e11, by rw [tl]; omega, by omega, by omega, ?_⟩
            have eq : ((wideT v :: inZ :: ts).map V.str).take (2 + (j : Int)).toNat ++ [V.str z] ++ ((wideT v :: inZ :: ts).map V.str).drop (2 + (j : Int)).toNat = (wideT v :: inZ :: (ts.take j ++ z :: ts.drop j)).map V.str := by
              rw [show (2 + (j : Int)).toNat = j + 2 by omega, ← List.map_take, ← List.map_drop]
              show (wideT v :: inZ :: ts.take j).map V.str ++ [V.str z] ++ (ts.drop j).map V.str = _
              rw [← List.cons_append, ← List.cons_append, List.map_append, List.append_assoc]
              rfl
            rw [eq]
            have ln : (ts.take j ++ z :: ts.drop j).length = ts.length + 1 := by rw [List.length_append, List.length_cons, List.length_take, List.length_drop]; omega
            refine ⟨⟨(k9.trans k911).drop nL (Kept.refl.upd (.inr rfl)), ⟨_, ts.take j ++ z :: ts.drop j, D11.keep Ld Lc, by omega, by omega, by omega, fun u hu => ?_, upd_same⟩, _, _, _, _, _, _, _, _, rfl⟩, ?_⟩
            · rcases List.mem_append.mp hu with h | h
              · exact hb u (List.mem_of_mem_take h)
              rcases List.mem_cons.mp h with rfl | h
              · exact four_blk v2 _ hz
              · exact hb u (List.mem_of_mem_drop h)
            · unfold lenAt
              rw [upd_same, e9]
              dsimp only
              rw [tl, List.length_map, List.length_cons, List.length_cons, ln]
              omega
          · have e62 : ¬ ((ts.length + 2 : Nat) : Int) < 62 := fun h => e (decide_eq_true h)
            have t60 : ts.length = 60 := by omega
            clear tl e e62 hj2 gu lu
            have nl := nlj_len (ts := wideT v :: inZ :: ts) (fun t ht => by
              rcases List.mem_cons.mp ht with rfl | ht
              · exact dl
              rcases List.mem_cons.mp ht with rfl | ht
              · decide +kernel
              · exact (hb t ht).2) (by rw [List.length_cons, List.length_cons]; omega)
            have nl2 := nlj_len (ts := wideT v :: inZ :: (ts ++ tailZ)) (fun t ht => by
              rcases List.mem_cons.mp ht with rfl | ht
              · exact dl
              rcases List.mem_cons.mp ht with rfl | ht
              · decide +kernel
              rcases List.mem_append.mp ht with h | h
              · exact (hb t h).2
              · exact (by decide +kernel : ∀ t ∈ tailZ, t.length ≤ 100) t h) (by rw [List.length_cons, List.length_cons, List.length_append]; show ts.length + 2 + 1 + 1 ≤ 100; omega)
            have d0 := due_all (us := ts) v1 v2 in_rows (by decide) ab_nm (fun u hu => (hb u hu).1) (by omega)
            have d1 := due_over (us := ts) v1 v2 in_rows (by decide) ab_nm (fun u hu => (hb u hu).1) t60
            have cnt : Txt.count (nlj (wideT v :: inZ :: ts)) "\n" + 1 = (((ts.map rowsS).flatten.length + 2 : Nat) : Int) := by
              rw [rows_cnt, rowsS_nlj (List.cons_ne_nil _ _), List.flatMap_cons, List.flatMap_cons, wide_rows (by omega), in_rows, List.flatMap_def]
              rfl
            refine nx_go ?_
            refine seq_asg ?_
            refine ⟨⟨_, rfl⟩, .ref L0, rfl, "\n", L0, wideT v :: inZ :: ts, rfl, rfl, .inl (SqL.of e9), nl.1, ⟨_, rfl⟩, _, "\n", rfl, rfl, _, 1, rfl, rfl, ?_⟩
            refine after_any (v := .int (Txt.count (nlj (wideT v :: inZ :: ts)) "\n" + 1)) ?_
            rw [cnt]
            generalize (ts.map rowsS).flatten.length = RL at d1
            refine inst_good (Gv.join (Gv.varV rfl e9) nl.1) Kept.refl d0 nl.2 fun H12 k12 => ⟨_, rfl, iteF ?_⟩
            have e12 := k12.lst e9 fun z => z
            have eqT : (wideT v :: inZ :: ts).map V.str ++ [V.str "", V.str "tell x"] = (wideT v :: inZ :: (ts ++ tailZ)).map V.str := by
              rw [← List.cons_append, ← List.cons_append, List.map_append]
              rfl
            refine eq_bad (Hb := H12) (Gv.join (ys := wideT v :: inZ :: (ts ++ tailZ)) (Gv.weak (Gv.cat (Gv.varV rfl e12) (Gv.lstC (vs := [.str "", .str "tell x"]) (Gcs.cons Gc.c (Gcs.cons Gc.c Gcs.nil)) (show 2 ≤ sizeLine by decide)) (by simp only [List.length_map, List.length_cons, List.length_nil]; omega)) fun v H _ h => by rw [eqT] at h; exact h) nl2.1)
              (Gv.two (x := .int ((RL + 4 : Nat) : Int)) (fun H Q q => ⟨.int ((RL + 2 : Nat) : Int), rfl, ((RL + 2 : Nat) : Int), 2, rfl, rfl, ?_⟩) (Gc.c (v := .int ((1 : Nat) : Int)))) Kept.refl d1 nl2.2 fun H13 k13 => ?_
            · show Q (.int (((RL + 2 : Nat) : Int) + 2)) H
              rw [show ((RL + 2 : Nat) : Int) + 2 = ((RL + 4 : Nat) : Int) by omega]
              exact q
            · exact q H13 ((k9.trans (k12.weak fun _ z => z.elim)).trans (k13.weak fun _ z => z.elim)) (((D9.stay k12).stay k13).more (by omega))
        · obtain ⟨y, h0, p, ys, h1, h2, i, j, h3, h4, b, h5, h6⟩ := h
          exact ⟨y, h0, p, ys, h1, h2, i, j, h3, h4, b, h5, hQ _ _ h6⟩
end
end K9

set_option Elab.async false
set_option linter.all false
set_option maxRecDepth 100000
set_option maxHeartbeats 4000000
namespace K9
open PySem PySem.Spec PyProof.Rows L2
/-! ### sum(lists, []) -/
section
variable {P : Program} {w : World} {A : Around} {E : Value → Shared → Prop} {s : Shared}
abbrev lob (xs : List Value) (c : Nat) : Obj := { cls := .type "list", dict := none, data := .seq xs.toArray c, slots := #[] }
theorem add_lists {x y : Addr} {xs ys : List Value} {c d : Nat} {Q : Value → Shared → Prop} (hx : s.heap.get? x = some (lob xs c)) (hy : s.heap.get? y = some (lob ys d)) (sz : xs.length + ys.length ≤ sizeLine)
    (go : Q (.ref s.heap.objs.size) { s with heap := s.heap.push (lob (xs ++ ys) 0) }) : wpAny (model P w) A (binaryOp .Add (.ref x) (.ref y)) Q E s := by
  have e : xs.toArray ++ ys.toArray = (xs ++ ys).toArray := by simp
  refine PySem.concat_meets ⟨_, hx, rfl⟩ ⟨_, hy, rfl⟩ noFill_list_add seq_list_add PySem.F.slot_list_add PySem.F.entry_list_add (PySem.F.args_list_add_2 _ _)
    (list_addW x y xs.toArray ys.toArray c d none none #[] #[] (by rw [List.size_toArray, List.size_toArray]; exact sz)) ⟨hx, hy, ?_⟩
  rw [e]
  exact go
/-- the lists one behind the other, as far as i -/
def upto (row : Nat → List Value) : Nat → List Value
  | 0 => []
  | i + 1 => upto row i ++ row i
theorem args_sumTwo (a b : Value) : argsOk "sum" ⟨[a, b], []⟩ := by unfold argsOk; kernel_rfl
theorem sum_go {I S L : Addr} {items : List Value} {row : Nat → List Value} {it : Nat → Addr} (none1 : A.in1.handled = none) (hit : ∀ i v, items[i]? = some v → v = Value.ref (it i)) (IS : S ≠ I) (IL : L ≠ I) (SL : S ≠ L) (few : (upto row items.length).length ≤ 100000) (fewR : ∀ i, i ≤ items.length → (upto row i).length ≤ 100000) (rowR : ∀ i, (row i).length ≤ 100000) {R : Result → Shared → Prop} :
    ∀ (k i : Nat) (s : Shared) (t c d : Nat), items.length - i = k → i ≤ items.length → s.heap.IsListIter I L i → s.heap.IsList L items.toArray → s.heap.get? S = some (lob [.ref t] c) → s.heap.get? t = some (lob (upto row i) d) → t ≠ S → t ≠ I →
      (∀ j, i ≤ j → j < items.length → (∃ e, s.heap.get? (it j) = some (lob (row j) e)) ∧ it j ≠ S ∧ it j ≠ I) →
      (∀ (h' : Heap) (tk t' d' : Nat), (∀ b o, b ≠ I → b ≠ S → s.heap.get? b = some o → h'.get? b = some o) → h'.get? t' = some (lob (upto row items.length) d') → (t' = t ∨ s.heap.get? t' = none) → R (.ok (.ret (.ref t'))) { s with heap := h', toks := tk }) →
      codeAny (model P w) A (.builtin "sum.loop" ⟨[.ref I, .ref S, rawInt 2, rawInt 0], []⟩) R s := by
  have W := Walks.list (prog := P) (w := w) (A := A.in1) none1 I L IL items.toArray
  intro k
  induction k with
  | zero =>
    intro i s t c d hk hi hI hL hS ht tS tI _ go
    have e : i = items.toArray.size := by rw [List.size_toArray]; omega
    subst e
    apply codeAny_builtin PySem.F.entry_sum_loop
    rw [Around.under_plainId PySem.F.plain_sum_loop _]
    show wpAny _ A.in1 (seqItems? (.ref S) >>= _) _ _ s
    apply wpAny_bind
    apply wpAny_seqItems hS rfl
    show wpAny _ A.in1 (tryCatch (pyNext (.ref I)) _ >>= _) _ _ s
    apply wpAny_bind
    apply wpAny_tryCatch
    refine W.done s _ _ ⟨hI, hL⟩ fun h' tk kp => ?_
    apply wpAny_pure
    rw [List.size_toArray] at ht
    exact go h' tk t d (fun b o n1 _ e => kp b o (by simpa using n1) e) (kp t _ (by simpa using tI) ht) (.inl rfl)
  | succ k ih =>
    intro i s t c d hk hi hI hL hS ht tS tI rows go
    have lt : i < items.toArray.size := by rw [List.size_toArray]; omega
    have lt' : i < items.length := by omega
    apply codeAny_builtin PySem.F.entry_sum_loop
    rw [Around.under_plainId PySem.F.plain_sum_loop _]
    show wpAny _ A.in1 (seqItems? (.ref S) >>= _) _ _ s
    apply wpAny_bind
    apply wpAny_seqItems hS rfl
    show wpAny _ A.in1 (tryCatch (pyNext (.ref I)) _ >>= _) _ _ s
    apply wpAny_bind
    apply wpAny_tryCatch
    refine W.item i s _ _ lt ⟨hI, hL⟩ fun v h' tk hv st kp => ?_
    obtain rfl := hit i v (by simpa using hv)
    obtain ⟨hI2, hL2⟩ := st
    have kp' : ∀ b o, b ≠ I → s.heap.get? b = some o → h'.get? b = some o := fun b o n e => kp b o (by simpa using n) e
    have hS2 := kp' S _ IS hS
    have ht2 := kp' t _ tI ht
    obtain ⟨⟨ej, hj⟩, njS, njI⟩ := rows i (Nat.le_refl _) lt'
    have hj2 := kp' _ _ njI hj
    show wpAny _ A.in1 ((holding [Value.ref (it i)] (binaryOp .Add (.ref t) (.ref (it i)))).attempt >>= _) _ _ _
    apply wpAny_bind
    apply wpAny_attempt
    apply wpAny_holding
    refine add_lists ht2 hj2 (by have := fewR i hi; have := rowR i; rw [sizeLine_eq]; omega) ?_
    have tnew : (h'.push (lob (upto row i ++ row i) 0)).get? h'.objs.size = some (lob (upto row (i + 1)) 0) := Heap.get?_push_size _ rfl
    have hS3 : (h'.push (lob (upto row i ++ row i) 0)).get? S = some (lob [.ref t] c) := Heap.get?_push_of_some _ hS2
    show wpAny _ A.in1 (updateSeq S (fun _ => #[Value.ref h'.objs.size]) >>= _) _ _ _
    apply wpAny_bind
    refine wpAny_updateSeq hS3 rfl ?_
    have hS4 := Heap.get?_update_self (Obj.mapSeq fun _ => #[Value.ref h'.objs.size]) hS3 rfl
    apply wpAny_bind
    apply wpAny_letGo
    apply wpAny_bind
    refine wpAny_updateSeq hS4 rfl ?_
    have hS5 := Heap.get?_update_self (Obj.mapSeq fun _ => #[Value.ref h'.objs.size]) hS4 rfl
    have Slt : S < h'.objs.size := Heap.lt_size hS2
    have Ilt : I < h'.objs.size := by obtain ⟨o, ho, _⟩ := hI2; exact Heap.lt_size ho
    -- what stood, stands, but at S
    have old : ∀ b o, b ≠ S → h'.get? b = some o → (((h'.push (lob (upto row i ++ row i) 0)).update S (Obj.mapSeq fun _ => #[Value.ref h'.objs.size])).update S (Obj.mapSeq fun _ => #[Value.ref h'.objs.size])).get? b = some o := fun b o n e =>
      (Heap.get?_update_other _ _ (Ne.symm n)).trans ((Heap.get?_update_other _ _ (Ne.symm n)).trans (Heap.get?_push_of_some _ e))
    have tn : (((h'.push (lob (upto row i ++ row i) 0)).update S (Obj.mapSeq fun _ => #[Value.ref h'.objs.size])).update S (Obj.mapSeq fun _ => #[Value.ref h'.objs.size])).get? h'.objs.size = some (lob (upto row (i + 1)) 0) :=
      (Heap.get?_update_other _ _ (Nat.ne_of_lt Slt)).trans ((Heap.get?_update_other _ _ (Nat.ne_of_lt Slt)).trans tnew)
    have back : ∀ b, b ≠ I → b ≠ S → (((h'.push (lob (upto row i ++ row i) 0)).update S (Obj.mapSeq fun _ => #[Value.ref h'.objs.size])).update S (Obj.mapSeq fun _ => #[Value.ref h'.objs.size])).get? b = none → s.heap.get? b = none := fun b n1 n2 e => by
      cases q : s.heap.get? b with
      | none => rfl
      | some o =>
        rw [old b o n2 (kp' b o n1 q)] at e
        cases e
    have big : s.heap.get? h'.objs.size = none := by
      cases q : s.heap.get? h'.objs.size with
      | none => rfl
      | some o => exact absurd (Heap.lt_size (kp' _ o (Nat.ne_of_gt Ilt) q)) (Nat.lt_irrefl _)
    apply wpAny_pure
    refine ⟨plainId_quiet PySem.F.plain_sum_loop _, ih (i + 1) _ h'.objs.size _ 0 (by omega) (by omega) (hI2.at fun o e => old I o (Ne.symm IS) e) (hL2.at fun o e => old L o (Ne.symm SL) e) hS5 tn (Nat.ne_of_gt Slt) (Nat.ne_of_gt Ilt) (fun j hj1 hj2 => ?_) (fun h2 tk2 t2 d2 kp2 ht2 or2 => ?_)⟩
    · obtain ⟨⟨e2, q1⟩, q2, q3⟩ := rows j (by omega) hj2
      exact ⟨⟨e2, old _ _ q2 (kp' _ _ q3 q1)⟩, q2, q3⟩
    · refine go h2 tk2 t2 d2 (fun b o n1 n2 e => kp2 b o n1 n2 (old b o n2 (kp' b o n1 e))) ht2 (.inr ?_)
      rcases or2 with rfl | q
      · exact big
      · refine back t2 (fun e => ?_) (fun e => ?_) q
        · obtain ⟨o, ho, _⟩ := hI2
          rw [e, old I o (Ne.symm IS) ho] at q
          cases q
        · rw [e, hS5] at q
          cases q
theorem sum_lists {L Z : Addr} {items : List Value} {cL cZ : Nat} {row : Nat → List Value} {it : Nat → Addr} {Q : Value → Shared → Prop} (hA : A.handled = none) (hL : s.heap.get? L = some (lob items cL)) (hZ : s.heap.get? Z = some (lob [] cZ)) (hit : ∀ i v, items[i]? = some v → v = Value.ref (it i))
    (fewR : ∀ i, i ≤ items.length → (upto row i).length ≤ 100000) (rowR : ∀ i, (row i).length ≤ 100000) (rows : ∀ j, j < items.length → ∃ e, s.heap.get? (it j) = some (lob (row j) e))
    (go : ∀ (h' : Heap) (tk t' d' : Nat), (∀ b o, s.heap.get? b = some o → h'.get? b = some o) → h'.get? t' = some (lob (upto row items.length) d') → (t' = Z ∨ s.heap.get? t' = none) → Q (.ref t') { s with heap := h', toks := tk }) :
    wpAny (model P w) A (call (.builtin "sum") [.ref L, .ref Z]) Q E s := by
  refine call_function_tree PySem.F.kind_sum PySem.F.plain_sum PySem.F.entry_sum (args_sumTwo _ _) ?_
  unfold Builtin.«sum»
  simp only [List.length_cons, List.length_nil]
  rw [if_neg (by decide)]
  refine wpAny_bind (wpAny_of_eq (show Builtin.Builtins.bindParams "sum" ["start"] 0 ⟨[Value.ref Z], []⟩ = pure [some (Value.ref Z)] from rfl) ?_)
  have isL : s.heap.IsList L items.toArray := ⟨_, hL, rfl, _, rfl⟩
  apply wpAny_bind
  apply wpAny_pyIter_list isL
  have hZ2 : Shared.TypeIs { s with heap := s.heap.push { cls := .type "list_iterator", data := .fields #[.ref L, .int 0 0] } } (.ref Z) "list" := ⟨_, Heap.get?_push_of_some _ hZ, rfl⟩
  apply wpAny_bind
  apply wpAny_pure
  simp only [List.forIn_cons, List.forIn_nil]
  refine wpAny_bind (wpAny_bind (wpAny_bind (wpAny_isInstance hZ2 PySem.F.sub_list_str ?_)))
  simp only [Bool.false_eq_true, if_false]
  refine wpAny_pure (wpAny_bind (wpAny_bind (wpAny_isInstance hZ2 PySem.F.sub_list_bytes ?_)))
  simp only [Bool.false_eq_true, if_false]
  refine wpAny_pure (wpAny_bind (wpAny_bind (wpAny_isInstance hZ2 PySem.F.sub_list_bytearray ?_)))
  simp only [Bool.false_eq_true, if_false]
  refine wpAny_pure (wpAny_pure ?_)
  apply wpAny_bind
  refine wpAny_newList ?_
  have szL : L < s.heap.objs.size := Heap.lt_size hL
  have szZ : Z < s.heap.objs.size := Heap.lt_size hZ
  have sz1 : (s.heap.push { cls := .type "list_iterator", data := .fields #[.ref L, .int 0 0] }).objs.size = s.heap.objs.size + 1 := Heap.size_push ..
  have two : ∀ b o, s.heap.get? b = some o → ((s.heap.push { cls := .type "list_iterator", data := .fields #[.ref L, .int 0 0] }).push (lob [.ref Z] 0)).get? b = some o := fun b o e => Heap.get?_push_of_some _ (Heap.get?_push_of_some _ e)
  apply wpAny_pure
  refine ⟨plainId_quiet PySem.F.plain_sum_loop _, sum_go (I := s.heap.objs.size) (S := (s.heap.push { cls := .type "list_iterator", data := .fields #[.ref L, .int 0 0] }).objs.size) (L := L) (items := items) (row := row) (it := it) (by simp [hA]) hit
    (Nat.ne_of_gt (by rw [sz1]; exact Nat.lt_succ_self _)) (Nat.ne_of_lt szL) (Nat.ne_of_gt (by rw [sz1]; exact Nat.lt_succ_of_lt szL)) (fewR _ (Nat.le_refl _)) fewR rowR _ 0 _ Z 0 cZ rfl (Nat.zero_le _) ?_ ?_ (Heap.get?_push_size _ rfl) (two _ _ hZ) (Nat.ne_of_lt (by rw [sz1]; exact Nat.lt_succ_of_lt szZ)) (Nat.ne_of_lt szZ) (fun j _ hj => ?_) (fun h' tk t' d' kp e or => ?_)⟩
  · exact ⟨_, Heap.get?_push_of_some _ (Heap.get?_push_size _ rfl), rfl, rfl⟩
  · exact ⟨_, two _ _ hL, rfl, _, rfl⟩
  · obtain ⟨e, q⟩ := rows j hj
    have lt := Heap.lt_size q
    exact ⟨⟨e, two _ _ q⟩, Nat.ne_of_lt (by rw [sz1]; exact Nat.lt_succ_of_lt lt), Nat.ne_of_lt lt⟩
  · refine go h' tk t' d' (fun b o q => kp b o (Nat.ne_of_lt (Heap.lt_size q)) (Nat.ne_of_lt (by rw [sz1]; exact Nat.lt_succ_of_lt (Heap.lt_size q))) (two b o q)) e ?_
    rcases or with rfl | q
    · exact .inl rfl
    · refine .inr ?_
      cases z : s.heap.get? t' with
      | none => rfl
      | some o =>
        rw [two t' o z] at q
        cases q
end
section
variable {X : Cx}
theorem obj_there {P : Program} {w : World} {H : Hp} {h : Heap} {a : Addr} {o : HO} (x : ObjOk P w H h a o) : ∃ u, h.get? a = some u := by
  cases o with
  | lst xs => obtain ⟨_, _, _, _, e⟩ := x; exact ⟨_, e⟩
  | tup xs => obtain ⟨_, _, _, _, e, _⟩ := x; exact ⟨_, e⟩
  | dK kvs => obtain ⟨_, _, _, _, o, _, _, e, _⟩ := x; exact ⟨_, e⟩
  | dT kvs => obtain ⟨_, _, _, _, o, _, _, e, _⟩ := x; exact ⟨_, e⟩
  | set S n => obtain ⟨o, _, _, _, e, _⟩ := x; exact ⟨_, e⟩
  | ins C dx fs => obtain ⟨_, _, _, e, _⟩ := x; exact ⟨_, e⟩
  | own y => obtain ⟨_, e⟩ := x; exact ⟨_, e⟩
  | xd fs => obtain ⟨_, ⟨_, _, _, e, _⟩, _⟩ := x; exact ⟨_, e⟩
  | rng lo hi => obtain ⟨_, _, _, e⟩ := x; exact ⟨_, e⟩
  | frz ob u => obtain ⟨e, _⟩ := x; exact ⟨_, e⟩
  | tbl ps => exact ⟨_, x⟩
  | met f y => exact ⟨_, x⟩
  | ext φ => obtain ⟨_, ⟨_, e⟩, _⟩ := x; exact ⟨_, e⟩
theorem ref_vals : ∀ {as : List Addr} {us : List Value}, Vals (as.map V.ref) us → us = as.map Value.ref
  | [], _, .nil => rfl
  | a :: as, _, .cons r t => by
    cases r
    rw [ref_vals t]; rfl
/-- sum(lists, []) of lists -/
def rSumV : List V → Hp → VK → Prop := fun vs H Q => ∃ (L Z : Addr) (as : List Addr) (ls : List (List V)), vs = [.ref L, .ref Z] ∧ H L = some (.lst (as.map V.ref)) ∧ H Z = some (.lst []) ∧ as.length = ls.length ∧ as.length ≤ 300 ∧
  (∀ (i : Nat) (a : Addr) (l : List V), as[i]? = some a → ls[i]? = some l → H a = some (.lst l) ∧ l.length ≤ 20) ∧ ∀ (p : Addr) (H' : Hp), Kept None H H' → H' p = some (.lst ls.flatten) → Q (.ref p) H'
theorem cr_sumV (hc : X.calm = true) : CallR X (.builtin "sum") rSumV := by
  intro pins s σ H vs us Q I r h
  obtain ⟨L, Z, as, ls, rfl, hL, hZ, el, few, rows, q⟩ := h
  obtain ⟨u1, u2, rfl, r1, r2⟩ := vals2 r
  obtain rfl : u1 = Value.ref L := r1
  obtain rfl : u2 = Value.ref Z := r2
  obtain ⟨_, itsL, nL, vL, lenL, gL⟩ := I.lstM hL
  obtain ⟨_, itsZ, nZ, vZ, _, gZ⟩ := I.lstM hZ
  obtain rfl := ref_vals vL
  cases vZ
  have each : ∀ i, ∃ r : List Value, r.length ≤ 20 ∧ ∀ (a : Addr) (l : List V), as[i]? = some a → ls[i]? = some l → Vals l r ∧ ∃ e, s.heap.get? a = some (lob r e) := fun i => by
    by_cases hi : i < as.length
    · have ha := List.getElem?_eq_getElem hi
      have hl := List.getElem?_eq_getElem (l := ls) (i := i) (by omega)
      obtain ⟨e1, e2⟩ := rows i _ _ ha hl
      obtain ⟨_, r, n, v, lr, g⟩ := I.lstM e1
      refine ⟨r, by rw [← lr]; exact e2, fun a l h1 h2 => ?_⟩
      rw [ha] at h1
      rw [hl] at h2
      cases h1
      cases h2
      exact ⟨v, n, g⟩
    · refine ⟨[], Nat.zero_le _, fun a l h1 _ => ?_⟩
      rw [List.getElem?_eq_none (by omega)] at h1
      cases h1
  obtain ⟨row, hrow⟩ := Classical.axiomOfChoice each
  have short : ∀ i, (upto row i).length ≤ 20 * i := fun i => by
    induction i with
    | zero => exact Nat.le_refl _
    | succ i ih =>
      have := (hrow i).1
      show (upto row i ++ row i).length ≤ _
      rw [List.length_append]
      omega
  have vals : ∀ i, i ≤ as.length → Vals (ls.take i).flatten (upto row i) := fun i => by
    induction i with
    | zero => intro _; exact .nil
    | succ i ih =>
      intro hi
      have hl := List.getElem?_eq_getElem (l := ls) (i := i) (by omega)
      have v := ((hrow i).2 _ _ (List.getElem?_eq_getElem (by omega)) hl).1
      have e : (ls.take (i + 1)).flatten = (ls.take i).flatten ++ ls[i] := by
        have e2 : (ls.take (i + 1)).flatten = (ls.take i).flatten ++ ls[i] := by
          rw [List.take_add_one, hl, List.flatten_append]
          show _ ++ [ls[i]].flatten = _
          rw [List.flatten_cons, List.flatten_nil, List.append_nil]
        rw [e2]
      rw [e]
      exact (ih (by omega)).append v
  have lenR : (as.map Value.ref).length = as.length := List.length_map _
  have all := vals as.length (Nat.le_refl _)
  rw [el, List.take_length, ← el] at all
  refine sum_lists (items := as.map Value.ref) (row := row) (it := fun i => as.getD i 0) (I.ok.hd hc) gL gZ (fun i v hv => ?_) (fun i hi => ?_) (fun i => ?_) (fun j hj => ?_) (fun h' tk t' d' kp e or => ?_)
  · rw [List.getElem?_map] at hv
    obtain ⟨a, ha, rfl⟩ := Option.map_eq_some_iff.mp hv
    rw [List.getD_eq_getElem?_getD, ha]; rfl
  · rw [lenR] at hi
    have := short i
    omega
  · have := (hrow i).1
    omega
  · rw [lenR] at hj
    have ha := List.getElem?_eq_getElem hj
    rw [List.getD_eq_getElem?_getD, ha]
    exact ((hrow j).2 _ _ ha (List.getElem?_eq_getElem (by omega))).2
  · rw [lenR] at e
    rcases or with rfl | fr
    · have e2 := (kp _ _ gZ).symm.trans e
      have e3 : upto row as.length = [] := by
        have e4 := congrArg Obj.data (Option.some.inj e2)
        injection e4 with e5 _
        exact (List.toArray_inj e5).symm
      rw [e3] at all
      refine ⟨.ref t', H, I.kept kp, rfl, q t' H Kept.refl ?_⟩
      rw [hZ]
      generalize ls.flatten = N at all
      cases all
      rfl
    · have hn : H t' = none := by
        cases z : H t' with
        | none => rfl
        | some o =>
          obtain ⟨u, g⟩ := obj_there (I.hok t' o z)
          rw [fr] at g
          cases g
      have lz : ls.flatten.length ≤ sizeLine := by
        rw [all.length, sizeLine_eq]
        have := short as.length
        omega
      exact ⟨.ref t', upd H t' (.lst ls.flatten), I.laidN kp fr hn ⟨lz, _, d', all, e⟩, rfl, q t' _ (Kept.refl.new hn) upd_same⟩
end
end K9

set_option Elab.async false
set_option linter.all false
set_option maxRecDepth 100000
set_option maxHeartbeats 800000
namespace K9
open PySem PySem.Spec PyProof.Rows L2 TL
/-! ### list.count of a text -/
def eqS (k : PySem.Str) (v : Value) : Bool := match v with
  | .str n _ => n.cps.toList == k.cps.toList
  | _ => false
def cntS (k : PySem.Str) (ns : List PySem.Str) : Nat := ns.countP fun y => y.cps.toList == k.cps.toList
theorem eqS_all {k : PySem.Str} {t : Tok} : ∀ {ns : List PySem.Str} {us : List Value}, Vals (ns.map V.str) us → (∀ y ∈ us, MeetsSeq.EqGives y (.str k t) (eqS k y)) ∧ us.countP (eqS k) = cntS k ns
  | [], us, r => by
    cases r
    exact ⟨fun y hy => (by cases hy), rfl⟩
  | n :: ns, us, r => by
    rw [List.map_cons] at r
    cases r with
    | cons rx rr =>
      obtain ⟨t', rfl⟩ := rx
      obtain ⟨h1, h2⟩ := eqS_all (k := k) (t := t) rr
      refine ⟨fun y hy => ?_, ?_⟩
      · rcases List.mem_cons.mp hy with e | e
        · rw [e]
          exact SeqRoads2.EqGives.str n k t' t
        · exact h1 y e
      · unfold cntS at h2 ⊢
        rw [List.countP_cons, List.countP_cons, h2]
        rfl
def rCntS (K : PySem.W.Frag) : V → List V → Hp → VK → Prop := fun x xs H Q => ∃ (p : Addr) (ns : List PySem.Str) (k : PySem.Str), x = .ref p ∧ xs = [.str k] ∧ SqL K H p (ns.map V.str) ∧ Q (.int ((cntS k ns : Nat) : Int)) H
theorem mt_lcountS {X : Cx} : MtR X "list.count" (rCntS X.K) := by
  intro pins s σ H x xs v us Q I rx rxs h
  obtain ⟨p, ns, k, rfl, rfl, hs, q⟩ := h
  cases rx
  obtain ⟨u, rfl, ru⟩ := rxs.one
  obtain ⟨t, rfl⟩ := ru
  obtain ⟨its, rv, ⟨⟨cls, dd, data, sl⟩, n, ho, hc, hdn, hd⟩, hlen⟩ := I.list hs
  simp only at hc hd
  subst hc hd
  obtain ⟨h1, ec⟩ := eqS_all (k := k) (t := t) rv
  refine call_meets PySem.F.slot_list_count ⟨_, ho, rfl⟩ PySem.F.entry_list_count (PySem.F.args_list_count_2 _ _)
    (SeqAt.list_countAt p its.toArray n dd sl (.str k t) (eqS k)) ⟨ho, fun y hy => (h1 y (by simpa using hy)).at _ _, ?_⟩
  refine ⟨.int ((cntS k ns : Nat) : Int), H, I.tok _, ⟨s.toks, ?_⟩, q⟩
  show Value.int ((its.toArray.toList.countP (eqS k) : Nat) : Int) s.toks = Value.int ((cntS k ns : Nat) : Int) s.toks
  rw [ec]
end K9

set_option Elab.async false
set_option linter.all false
set_option maxRecDepth 100000
set_option maxHeartbeats 800000
namespace K9
open PySem PySem.Spec PyProof.Rows L2 TL
/-! ### rows within rows -/
abbrev begZ : List (List PySem.Str) := [["if x"], ["if x", "else"], ["round 0"], ["if x", "tell y", "else"]]
abbrev endZ : List (List PySem.Str) := [["else", "end"], ["end"], ["end"], ["end"]]
abbrev rndZ : PySem.Str := "round 0"
structure Dpi (B E : List PySem.Str) (S : List Bk) (m i : Nat) : Prop where
  op : ∀ N R, dueG 4 N [] 0 (numb 3 ((B.map rowsS).flatten ++ R)) = dueG 4 N S m (numb (3 + B.length) R)
  cl : ∀ N k m', dueG 4 N S m' (numb k (E.map rowsS).flatten) = none
  ls : S.length = i
  rs : rnds S = cntS rndZ B
  r3 : rnds S ≤ 3
  mm : m ≤ 2 * i
  lB : B.length ≤ 3 * i
  lE : E.length ≤ 2 * i
  sz : ∀ t ∈ B ++ E, t.length ≤ 100
theorem Dpi.nil : Dpi [] [] [] 0 0 := ⟨fun N R => rfl, fun N k m' => rfl, rfl, rfl, by decide, by decide, by decide, by decide, fun t h => by cases h⟩
theorem cntS_app (k : PySem.Str) (a b : List PySem.Str) : cntS k (a ++ b) = cntS k a + cntS k b := List.countP_append
theorem beg_len : ∀ w, w < 4 → ∀ t ∈ begZ.getD w [] ++ endZ.getD w [], t.length ≤ 100 := by decide +kernel
abbrev ifW : List PySem.Str := ["if", "x"]
abbrev elseW : List PySem.Str := ["else"]
abbrev endW : List PySem.Str := ["end"]
abbrev rndW : List PySem.Str := ["round", "0"]
abbrev tellW : List PySem.Str := ["tell", "y"]
theorem nm_y : Nm "y" := by unfold Nm; decide +kernel
theorem end_els {N m k : Nat} {S : List Bk} {R : List (List PySem.Str)} : dueG 4 N (.els :: S) m (numb k (endW :: R)) = dueG 4 N S m (numb (k + 1) R) := dueG_ok (List.cons_ne_nil _ _) rfl
theorem end_rnd {N m k : Nat} {S : List Bk} {R : List (List PySem.Str)} : dueG 4 N (.rnd :: S) m (numb k (endW :: R)) = dueG 4 N S m (numb (k + 1) R) := dueG_ok (List.cons_ne_nil _ _) rfl
theorem else_if {N m k : Nat} {S : List Bk} {R : List (List PySem.Str)} : dueG 4 N (.ifk :: S) m (numb k (elseW :: R)) = dueG 4 N (.els :: S) m (numb (k + 1) R) := dueG_ok (List.cons_ne_nil _ _) rfl
theorem Dpi.step {B E : List PySem.Str} {S : List Bk} {m i : Nat} (h : Dpi B E S m i) (hi : i < 6) {w : Nat} (hw : w < 4) (h2 : w = 2 → rnds S < 3) (h3 : w = 3 → i < 5) : ∃ S' m', Dpi (B ++ begZ.getD w []) (endZ.getD w [] ++ E) S' m' (i + 1) := by
  have hm : m < 60 := by have := h.mm; omega
  have hS : S.length < 6 := by have := h.ls; omega
  have sz : ∀ t ∈ (B ++ begZ.getD w []) ++ (endZ.getD w [] ++ E), t.length ≤ 100 := fun t ht => by
    have bl := beg_len w hw t
    simp only [List.mem_append] at ht bl
    have hs := h.sz t
    rw [List.mem_append] at hs
    rcases ht with (a | a) | (a | a)
    · exact hs (.inl a)
    · exact bl (.inl a)
    · exact bl (.inr a)
    · exact hs (.inr a)
  have ro : ∀ (b : List PySem.Str) N R, dueG 4 N [] 0 (numb 3 (((B ++ b).map rowsS).flatten ++ R)) = dueG 4 N S m (numb (3 + B.length) ((b.map rowsS).flatten ++ R)) := fun b N R => by
    rw [List.map_append, List.flatten_append, List.append_assoc, h.op]
  have rc : ∀ (e : List PySem.Str) (k : Nat), numb k ((e ++ E).map rowsS).flatten = numb k ((e.map rowsS).flatten ++ (E.map rowsS).flatten) := fun e k => by
    rw [List.map_append, List.flatten_append]
  have f2 : ((["else", "end"] : List PySem.Str).map rowsS).flatten = [elseW, endW] := by decide +kernel
  have f1 : ((["end"] : List PySem.Str).map rowsS).flatten = [endW] := by decide +kernel
  have lB := h.lB
  have lE := h.lE
  have ls := h.ls
  have rs := h.rs
  have r3 := h.r3
  have mm := h.mm
  match w, hw with
  | 0, _ =>
    refine ⟨.ifk :: S, m + 1, fun N R => ?_, fun N k m' => ?_, by rw [List.length_cons, ls], ?_, ?_, by omega, ?_, ?_, sz⟩
    · rw [ro, show ((begZ.getD 0 []).map rowsS).flatten = [ifW] by decide +kernel, List.singleton_append, dueG_ok (List.cons_ne_nil _ _) (if_ok hm hS), List.length_append]
      rfl
    · rw [rc]
      show dueG 4 N (.ifk :: S) m' (numb k (((["else", "end"] : List PySem.Str).map rowsS).flatten ++ (E.map rowsS).flatten)) = none
      rw [f2, List.cons_append, List.cons_append, List.nil_append, else_if, end_els, h.cl]
    · rw [cntS_app, ← rs]; rfl
    · exact r3
    · rw [List.length_append]; show B.length + 1 ≤ _; omega
    · rw [List.length_append]; show 2 + E.length ≤ _; omega
  | 1, _ =>
    refine ⟨.els :: S, m + 1, fun N R => ?_, fun N k m' => ?_, by rw [List.length_cons, ls], ?_, ?_, by omega, ?_, ?_, sz⟩
    · rw [ro, show ((begZ.getD 1 []).map rowsS).flatten = [ifW, elseW] by decide +kernel, List.cons_append, List.singleton_append, dueG_ok (List.cons_ne_nil _ _) (if_ok hm hS), else_if, List.length_append]
      rfl
    · rw [rc]
      show dueG 4 N (.els :: S) m' (numb k (((["end"] : List PySem.Str).map rowsS).flatten ++ (E.map rowsS).flatten)) = none
      rw [f1, List.singleton_append, end_els, h.cl]
    · rw [cntS_app, ← rs]; rfl
    · exact r3
    · rw [List.length_append]; show B.length + 2 ≤ _; omega
    · rw [List.length_append]; show 1 + E.length ≤ _; omega
  | 2, _ =>
    refine ⟨.rnd :: S, m + 1, fun N R => ?_, fun N k m' => ?_, by rw [List.length_cons, ls], ?_, ?_, by omega, ?_, ?_, sz⟩
    · rw [ro, show ((begZ.getD 2 []).map rowsS).flatten = [rndW] by decide +kernel, List.singleton_append, dueG_ok (List.cons_ne_nil _ _) ((rnd_step hm hS (h2 rfl)).trans (fin0 (by decide +kernel))), List.length_append]
      rfl
    · rw [rc]
      show dueG 4 N (.rnd :: S) m' (numb k (((["end"] : List PySem.Str).map rowsS).flatten ++ (E.map rowsS).flatten)) = none
      rw [f1, List.singleton_append, end_rnd, h.cl]
    · rw [cntS_app, ← rs]; exact List.count_cons_self
    · have := h2 rfl
      show List.count Bk.rnd (Bk.rnd :: S) ≤ 3
      rw [List.count_cons_self]
      exact this
    · rw [List.length_append]; show B.length + 1 ≤ _; omega
    · rw [List.length_append]; show 1 + E.length ≤ _; omega
  | 3, _ =>
    have h5 := h3 rfl
    refine ⟨.els :: S, m + 2, fun N R => ?_, fun N k m' => ?_, by rw [List.length_cons, ls], ?_, ?_, by omega, ?_, ?_, sz⟩
    · rw [ro, show ((begZ.getD 3 []).map rowsS).flatten = [ifW, tellW, elseW] by decide +kernel, List.cons_append, List.cons_append, List.singleton_append, dueG_ok (List.cons_ne_nil _ _) (if_ok hm hS), (tell_good nm_y).dueG (by omega) (by rw [List.length_cons]; omega), else_if, List.length_append]
      rfl
    · rw [rc]
      show dueG 4 N (.els :: S) m' (numb k (((["end"] : List PySem.Str).map rowsS).flatten ++ (E.map rowsS).flatten)) = none
      rw [f1, List.singleton_append, end_els, h.cl]
    · rw [cntS_app, ← rs]; rfl
    · exact r3
    · rw [List.length_append]; show B.length + 3 ≤ _; omega
    · rw [List.length_append]; show 1 + E.length ≤ _; omega
abbrev xyZ : List PySem.Str := ["x", "y"]
abbrev inXY : PySem.Str := "in x y"
abbrev w4T : PySem.Str := "wide 4"
theorem w4_eq : w4T = wideT 4 := by decide +kernel
theorem xy_rows : rowsS inXY = [inL xyZ] := by decide +kernel
theorem xy_nm : ∀ x ∈ xyZ, Nm x := by
  intro x hx
  have : ∀ x ∈ xyZ, nameB (.str x) = true := by decide +kernel
  exact this x hx
abbrev wordZ : List PySem.Str := ["tell x", "set x copy y", "if x", "round 1"]
theorem word_rows : ∀ z ∈ wordZ, ∃ a r, rowsS z = [a :: r] ∧ a ≠ "else" ∧ a ≠ "end" := fun z hz => by
  simp only [wordZ, List.mem_cons, List.not_mem_nil, or_false] at hz
  rcases hz with rfl | rfl | rfl | rfl
  · exact ⟨"tell", ["x"], by decide +kernel, by decide +kernel, by decide +kernel⟩
  · exact ⟨"set", ["x", "copy", "y"], by decide +kernel, by decide +kernel, by decide +kernel⟩
  · exact ⟨"if", ["x"], by decide +kernel, by decide +kernel, by decide +kernel⟩
  · exact ⟨"round", ["1"], by decide +kernel, by decide +kernel, by decide +kernel⟩
theorem Dpi.due {B E : List PySem.Str} {S : List Bk} {m : Nat} (h : Dpi B E S m 6) : due (rowsS (nlj (w4T :: inXY :: (B ++ E)))) = none := by
  rw [w4_eq, due_text (v := 4) (by decide) (by decide) xy_rows (by decide) xy_nm, List.map_append, List.flatten_append, h.op, h.cl]
theorem Dpi.far {B E : List PySem.Str} {S : List Bk} {m : Nat} (h : Dpi B E S m 6) {z : PySem.Str} (hz : z ∈ wordZ) : Far (nlj (w4T :: inXY :: (B ++ z :: E))) (B.length + 3) 1 := by
  obtain ⟨a, r, e, h1, h2⟩ := word_rows z hz
  unfold Far
  rw [w4_eq, due_text (v := 4) (by decide) (by decide) xy_rows (by decide) xy_nm, List.map_append, List.flatten_append, h.op, List.map_cons, List.flatten_cons, e, List.singleton_append, dueG_no (List.cons_ne_nil _ _) (over_step h1 h2 (by have := h.ls; omega)), Nat.add_comm]
/-! #### three rounds within one another -/
abbrev varZ : List (List PySem.Str) := [["if x", "round 0"], ["round 0", "if x"], ["round 0"]]
abbrev tl2 : List PySem.Str := ["round 12", "round 1"]
abbrev telX : List PySem.Str := ["tell x"]
abbrev rndE : List PySem.Str := ["round 0", "end"]
abbrev ee : List PySem.Str := ["else", "end"]
abbrev e1 : List PySem.Str := ["end"]
def clo (z : PySem.Str) : List PySem.Str := if z = "if x" then ee else e1
def enZ (b : List PySem.Str) : List PySem.Str := (b.reverse.map clo).flatten
theorem three_facts : ∀ v ∈ varZ, due (rowsS (nlj (w4T :: inXY :: ((v ++ tl2) ++ telX ++ enZ (v ++ tl2))))) = none ∧ due (rowsS (nlj (w4T :: inXY :: ((v ++ tl2) ++ rndE ++ enZ (v ++ tl2))))) = some ((v ++ tl2).length + 3, 1) ∧
    (∀ t ∈ (v ++ tl2) ++ telX ++ rndE ++ enZ (v ++ tl2), t.length ≤ 100) ∧ (v ++ tl2).length ≤ 4 ∧ (enZ (v ++ tl2)).length ≤ 8 := by decide +kernel
end K9

set_option Elab.async false
set_option linter.all false
set_option maxRecDepth 100000
set_option maxHeartbeats 1600000
namespace K9
open PySem PySem.Spec PyProof.Rows L2 TL
abbrev sLDeepRight : Stmt := top 47
theorem scLDeepRight : FnScope ["draw", "begun", "ended", "k", "way", "lines", "word", "line"] ["draw"] (defScope sLDeepRight) := ⟨rfl, rfl, rfl, by decide +kernel, rfl, by decide +kernel, by decide +kernel⟩
theorem seq_if2 {t : TT} {a b u : TS} {D : Ends} {σ : L2.St} {H : Hp} (J : L2.St → Hp → Prop) (q : ∀ σ' H', J σ' H' → u D σ' H') (h : (∀ σ' H', J σ' H' → u D σ' H') → t σ H fun c H1 => if c = true then a { D with nx := u D } σ H1 else b { D with nx := u D } σ H1) : tSeq (tIfS t a b) u D σ H := h q
theorem Dr.nl9 {H : Hp} {d c : Addr} {ns : List Int} {n : Nat} (D : Dr H d c ns n) : ∀ b xs, H b = some (.lst xs) → ¬ At d b := fun p ys e z => by
  obtain ⟨_, _, _, z2, _⟩ := D.at_
  rw [z, z2] at e; cases e
theorem beg_at : ∀ w, w < 4 → (begZ.map fun l => l.map V.str)[w]? = some ((begZ.getD w []).map V.str) := fun w h => match w, h with
  | 0, _ => rfl
  | 1, _ => rfl
  | 2, _ => rfl
  | 3, _ => rfl
theorem end_at : ∀ w, w < 4 → (endZ.map fun l => l.map V.str)[w]? = some ((endZ.getD w []).map V.str) := fun w h => match w, h with
  | 0, _ => rfl
  | 1, _ => rfl
  | 2, _ => rfl
  | 3, _ => rfl
/-- lists of lists written out -/
def GsV (Hb : Hp) (t : TA) (σ : L2.St) (bs : List (List V)) : Prop := ∀ (H : Hp) (Q : List V → Hp → Prop), Kept None Hb H → (∀ vs H', Kept None H H' → vs.length = bs.length → (∀ (i : Nat) (b : List V), bs[i]? = some b → ∃ p, vs[i]? = some (.ref p) ∧ H' p = some (.lst b)) → Q vs H') → t σ H Q
section
variable {Hb H : Hp} {σ : L2.St} {ta ti : TE} {t : TA} {b : List V} {bs : List (List V)} {K : PySem.W.Frag} {Q : VK}
theorem GsV.nil : GsV Hb tNil σ [] := fun H Q _ q => q [] H Kept.refl rfl fun i b h => by cases h
theorem GsV.cons (g : Gv Hb ta σ (isV b)) (gs : GsV Hb t σ bs) : GsV Hb (tCons ta t) σ (b :: bs) := fun H Q k q =>
  g H _ k fun v H1 k1 ⟨p, e, hp⟩ => gs H1 _ (k.trans k1) fun vs H2 k2 l rs => q (v :: vs) H2 (k1.trans k2) (by rw [List.length_cons, List.length_cons, l]) fun i c hc => by
    cases i with
    | zero =>
      cases hc
      exact ⟨p, by rw [e]; rfl, k2.lst hp fun z => z⟩
    | succ i => exact rs i c hc
theorem GsV.run (gs : GsV Hb t σ bs) (k : Kept None Hb H) (hn : bs.length ≤ sizeLine) (q : ∀ vs H1, Kept None H H1 → vs.length = bs.length → (∀ (i : Nat) (b : List V), bs[i]? = some b → ∃ p, vs[i]? = some (.ref p) ∧ H1 p = some (.lst b)) → ∀ p, H1 p = none → Q (.ref p) (upd H1 p (.lst vs))) : tLst t σ H Q :=
  gs H _ k fun vs H1 k1 l rs => ⟨by omega, q vs H1 k1 l rs⟩
theorem Gv.pick {w : Nat} (gs : GsV Hb t σ bs) (hn : bs.length ≤ sizeLine) (gi : Gc ti σ (.int (w : Int))) (hb : bs[w]? = some b) : Gv Hb (tOp (rIxL K) (tLst t) ti) σ (isV b) := fun H Q k q =>
  GsV.run gs k hn fun vs H1 k1 l rs p hp => gi _ _ (by
    obtain ⟨p2, e2, h2⟩ := rs w b hb
    have k2 : Kept None H1 (upd H1 p (.lst vs)) := Kept.refl.new hp
    exact ⟨p, vs, (w : Int), .ref p2, rfl, rfl, SqL.of upd_same, atI_nat e2, q _ _ (k1.trans k2) ⟨p2, rfl, k2.lst h2 fun z => z⟩⟩)
theorem Gv.twoG {tb : TE} {x y : V} (ga : Gv Hb ta σ (isC x)) (gb : Gv Hb tb σ (isC y)) : Gv Hb (tLst (tCons ta (tCons tb tNil))) σ (isV [x, y]) := fun H Q k q =>
  ga H _ k fun v H1 k1 e1 => gb H1 _ (k.trans k1) fun u H2 k2 e2 => ⟨(show 2 ≤ sizeLine by decide), fun p hp => by
    cases e1
    cases e2
    exact q (.ref p) _ ((k1.trans k2).trans (Kept.refl.new hp)) ⟨p, rfl, upd_same⟩⟩
theorem op_go {r : R2} {tb : TE} (h : ta σ H fun x H1 => tb σ H1 fun y H2 => r x y H2 Q) : tOp r ta tb σ H Q := h
theorem Gv.toV {xs ys : List V} (g : Gv Hb ta σ (isV xs)) (e : xs = ys) : Gv Hb ta σ (isV ys) := e ▸ g
end
section
variable {P : Program} {w : World} {K : PySem.W.Frag} {mg : PySem.Str → Option Value} {base : Heap} {f : Addr} {fd : FuncData}
theorem ok_deep (F : FnP K "_law_deep_right" sLDeepRight f fd) (dN : Def P w K mg base 2 "_law_next" ["draw", "many"] spNext) (dS : Def P w K mg base 25 "_law_said" ["text"] (spSaid K)) (m_range : mg "range" = none) (m_int : mg "int" = none) (m_len : mg "len" = none) (m_sum : mg "sum" = none) (m_isinstance : mg "isinstance" = none) (m_tuple : mg "tuple" = none) : FnOk P w K mg base CX0 26 f fd ["draw"] spDr1 := by
  obtain ⟨fN, fdN, GN, bN, kN, gN⟩ := dN
  obtain ⟨fS, fdS, GS, bS, kS, gS⟩ := dS
  refine F.ok (k := 25) scLDeepRight (fun vs H Q E h => ?_) (fun cdv A0 outer s H vs Q E hr h => ?_)
  · obtain ⟨d, c, ns, n, rfl, _⟩ := h
    rfl
  · obtain ⟨d, c, ns, n, rfl, D0, hn, q⟩ := h
    have GN := GN.mono (show 2 ≤ 25 by decide)
    refine ⟨_, PSs.nox (pss_cons (ps_par (i := 1) (j := 2) (by rfl) scLDeepRight.nd rfl rfl (by decide) rfl rfl (pa_cons (pe_lst pa_nil) (pa_cons (pe_lst pa_nil) pa_nil)) (by rfl))
    (pss_cons (ps_for PassesOwn.never rfl (pi_range1 rfl m_range (pa_cons pe_int pa_nil)) (pg_name (i := 3) scLDeepRight.nd rfl (Or.inl rfl))
      (pss_cons (ps_set (i := 4) scLDeepRight.nd rfl (Or.inl rfl) (pe_call GN hr (by rfl) gN kN bN .nil pass0 (pa_cons (pv 0) (pa_cons (pe_op op_sub pe_int (pe_callTy call_int1 (by rfl) m_int (by decide +kernel) (pa_cons (pe_cmpR op_eq (pv 3) pe_int (nomark _)) pa_nil))) pa_nil))))
      (pss_cons (ps_if (pt_cmpR op_eq (pe_bm PySem.F.plainAttrs_list PySem.F.slot_list_count PySem.F.type_list_count mt_lcountS (pv 1) (pa_cons pe_str pa_nil)) pe_int (nomark _))
        (pss_one (ps_set (i := 4) scLDeepRight.nd rfl (Or.inl rfl) (pe_op op_mod (pv 4) pe_int)))
        pss_nil)
      (pss_cons (ps_set (i := 1) scLDeepRight.nd rfl (Or.inl rfl) (pe_op op_cat (pv 1) (pe_ix ix_list (pe_lst (pa_cons (pe_lst (pa_cons pe_str pa_nil)) (pa_cons (pe_lst (pa_cons pe_str (pa_cons pe_str pa_nil))) (pa_cons (pe_lst (pa_cons pe_str pa_nil)) (pa_cons (pe_lst (pa_cons pe_str (pa_cons pe_str (pa_cons pe_str pa_nil)))) pa_nil))))) (pv 4) (fun _ _ => rfl))))
      (pss_one (ps_set (i := 2) scLDeepRight.nd rfl (Or.inl rfl) (pe_op op_cat (pe_ix ix_list (pe_lst (pa_cons (pe_lst (pa_cons pe_str (pa_cons pe_str pa_nil))) (pa_cons (pe_lst (pa_cons pe_str pa_nil)) (pa_cons (pe_lst (pa_cons pe_str pa_nil)) (pa_cons (pe_lst (pa_cons pe_str pa_nil)) pa_nil))))) (pv 4) (fun _ _ => rfl)) (pv 2))))))))
    (pss_cons (ps_set (i := 5) scLDeepRight.nd rfl (Or.inl rfl) (pe_op op_cat (pe_lst (pa_cons pe_str (pa_cons pe_str pa_nil))) (pv 1)))
    (pss_cons (ps_if (pt_not (pt_val (pe_callB RZ.call_isTy (by rfl) m_isinstance (by decide +kernel) (pa_cons (pe_call GS hr (by rfl) gS kS bS .nil pass0 (pa_cons (pe_join pe_str (pe_op op_cat (pv 5) (pv 2))) pa_nil)) (pa_cons (pe_bltn (v := .ty "tuple") (by rfl) m_tuple (by decide +kernel) rfl) pa_nil)))))
      (pss_one (ps_ret pe_bl))
      pss_nil)
    (pss_cons (ps_set (i := 6) scLDeepRight.nd rfl (Or.inl rfl) (pe_ix ix_list (pe_lst (pa_cons pe_str (pa_cons pe_str (pa_cons pe_str (pa_cons pe_str pa_nil))))) (pe_call GN hr (by rfl) gN kN bN .nil pass0 (pa_cons (pv 0) (pa_cons pe_int pa_nil))) (fun _ _ => rfl)))
    (pss_cons (ps_if (pt_cmpR (op_neD hr.units) (pe_call GS hr (by rfl) gS kS bS .nil pass0 (pa_cons (pe_join pe_str (pe_op op_cat (pe_op op_cat (pv 5) (pe_lst (pa_cons (pv 6) pa_nil))) (pv 2))) pa_nil)) (pe_lst (pa_cons (pe_op op_add (pe_callB call_len_seq (by rfl) m_len PySem.boot_len (pa_cons (pv 5) pa_nil)) pe_int) (pa_cons pe_int pa_nil))) (nomark _))
      (pss_one (ps_ret pe_bl))
      pss_nil)
    (pss_cons (ps_set (i := 1) scLDeepRight.nd rfl (Or.inl rfl) (pe_op op_cat (pe_ix ix_list (pe_lst (pa_cons (pe_lst (pa_cons pe_str (pa_cons pe_str pa_nil))) (pa_cons (pe_lst (pa_cons pe_str (pa_cons pe_str pa_nil))) (pa_cons (pe_lst (pa_cons pe_str pa_nil)) pa_nil)))) (pe_call GN hr (by rfl) gN kN bN .nil pass0 (pa_cons (pv 0) (pa_cons pe_int pa_nil))) (fun _ _ => rfl)) (pe_lst (pa_cons pe_str (pa_cons pe_str pa_nil)))))
    (pss_cons (ps_set (i := 5) scLDeepRight.nd rfl (Or.inl rfl) (pe_op op_cat (pe_slice sl_list (pv 5) po_none (po_some pe_int)) (pv 1)))
    (pss_cons (ps_set (i := 2) scLDeepRight.nd rfl (Or.inl rfl) (pe_callB (cr_sumV rfl) (by rfl) m_sum (by decide +kernel) (pa_cons (pe_lc (own := [("line", 7)]) (g := gName 7) (tt := tYes) rfl scLDeepRight.nd (pi_list (pe_revL (pv 1))) (blkOk_by (own := [("line", 7)]) (N := ["draw", "begun", "ended", "k", "way", "lines", "word", "line"]) (sc := defScope sLDeepRight) (by decide +kernel)) (by exact (fun _ _ _ _ _ => (pg_name (i := 7) scLDeepRight.nd rfl (Or.inl rfl)))) (by exact (fun _ _ _ _ _ => pts_nil)) (by exact (fun _ _ _ _ _ => (pe_ifExp (pt_cmpR op_eq (pv 7) pe_str (nomark _)) (pe_lst (pa_cons pe_str (pa_cons pe_str pa_nil))) (pe_lst (pa_cons pe_str pa_nil)))))) (pa_cons (pe_lst pa_nil) pa_nil))))
    (pss_cons (ps_if (pt_not (pt_val (pe_callB RZ.call_isTy (by rfl) m_isinstance (by decide +kernel) (pa_cons (pe_call GS hr (by rfl) gS kS bS .nil pass0 (pa_cons (pe_join pe_str (pe_op op_cat (pe_op op_cat (pv 5) (pe_lst (pa_cons pe_str pa_nil))) (pv 2))) pa_nil)) (pa_cons (pe_bltn (v := .ty "tuple") (by rfl) m_tuple (by decide +kernel) rfl) pa_nil)))))
      (pss_one (ps_ret pe_bl))
      pss_nil)
    (pss_one (ps_ret (pe_cmpR (op_eqD hr.units) (pe_call GS hr (by rfl) gS kS bS .nil pass0 (pa_cons (pe_join pe_str (pe_op op_cat (pe_op op_cat (pv 5) (pe_lst (pa_cons pe_str (pa_cons pe_str pa_nil)))) (pv 2))) pa_nil)) (pe_lst (pa_cons (pe_op op_add (pe_callB call_len_seq (by rfl) m_len PySem.boot_len (pa_cons (pv 5) pa_nil)) pe_int) (pa_cons pe_int pa_nil))) (nomark _)))))))))))))), ?_⟩
    have szl := sizeLine_eq
    refine ⟨(show 0 ≤ sizeLine by decide), fun p1 hp1 => ⟨(show 0 ≤ sizeLine by decide), fun p2 hp2 => ?_⟩⟩
    have k1 : Kept None H (upd H p1 (.lst [])) := Kept.refl.new hp1
    have k2 : Kept None (upd H p1 (.lst [])) (upd (upd H p1 (.lst [])) p2 (.lst [])) := Kept.refl.new hp2
    have f1 : upd H p1 (.lst []) p1 = some (.lst []) := upd_same
    have f1' := k2.lst f1 fun z => z
    have f2 : upd (upd H p1 (.lst [])) p2 (.lst []) p2 = some (.lst []) := upd_same
    have k12 := k1.trans k2
    generalize upd (upd H p1 (.lst [])) p2 (.lst []) = H2 at k12 f1' f2 ⊢
    clear k1 k2 f1 hp1 hp2
    have D2 := D0.stay k12
    refine ⟨_, _, rfl, 6, rfl, by decide, by decide, ?_⟩
    refine for_range (lo := 0) (n := 6) (fun i σ H' => Kept (At d) H H' ∧ Dr H' d c ns (n + i) ∧ (∃ (B E : List PySem.Str) (S : List Bk) (m : Nat) (pb pe : Addr), Dpi B E S m i ∧ H' pb = some (.lst (B.map V.str)) ∧ H' pe = some (.lst (E.map V.str)) ∧ ∃ y3 y4 y5 y6 y7, σ = [some (.ref d), some (.ref pb), some (.ref pe), y3, y4, y5, y6, y7]))
      ⟨k12.weak fun _ z => z.elim, D2, [], [], [], 0, p1, p2, Dpi.nil, f1', f2, none, none, none, none, none, rfl⟩ (fun i σ H5 hi h => ?_) (fun σ H5 h => ?_)
    · obtain ⟨k5, D5, B, E1, S, m, pb, pe, dp, eb, ee1, y3, y4, y5, y6, y7, rfl⟩ := h
      refine after_any (v := .int (0 + (i : Int))) ?_
      refine seq_asg ?_
      have b01 : ∀ b : Bool, (if b = true then (1 : Int) else 0) = 0 ∨ (if b = true then (1 : Int) else 0) = 1 := fun b => by cases b <;> simp
      have hb := b01 (decide (V.int (0 + (i : Int)) = V.int 5))
      refine ⟨.ref d, rfl, .int (0 + (i : Int)), rfl, rfl, .inr ⟨_, rfl, 4, (if decide (V.int (0 + (i : Int)) = V.int 5) = true then 1 else 0), rfl, rfl, d, c, ns, _, _, rfl, D5, by omega, by omega, by omega, fun r H6 a6 b6 k6 D6 => ?_⟩⟩
      obtain ⟨w, rfl⟩ := Int.eq_ofNat_of_zero_le a6
      have hw : w < 4 := by omega
      have h5 : i = 5 → w < 3 := fun e => by
        subst e
        rw [show decide (V.int (0 + ((5 : Nat) : Int)) = V.int 5) = true by decide] at b6
        simp at b6
        omega
      clear hb b6 b01
      have eb6 := k6.lst eb (D5.nl9 _ _ eb)
      have ee6 := k6.lst ee1 (D5.nl9 _ _ ee1)
      have k06 := k5.trans k6
      clear k5 k6 eb ee1 D5
      refine after_any (v := .int (w : Int)) ?_
      refine seq_if2 (fun σ' H' => H' = H6 ∧ ∃ w2 : Nat, w2 < 4 ∧ (w2 = 2 → rnds S < 3) ∧ (w2 = 3 → i < 5) ∧ σ' = [some (.ref d), some (.ref pb), some (.ref pe), some (.int (0 + (i : Int))), some (.int (w2 : Int)), y5, y6, y7]) (fun σ' H' h => ?_) (fun qq => ?_)
      · obtain ⟨rfl, w2, hw2, h22, h23, rfl⟩ := h
        obtain ⟨S', m', dp'⟩ := dp.step hi hw2 h22 h23
        have lB' := dp'.lB
        have lE' := dp'.lE
        rw [List.length_append] at lB' lE'
        refine seq_asg ?_
        refine Gv.run (Hb := H') (Gv.toV (Gv.cat (Gv.varV rfl eb6) (Gv.pick (w := w2) (bs := begZ.map fun l => l.map V.str) (GsV.cons (Gv.lstC (vs := [.str "if x"]) (Gcs.cons Gc.c Gcs.nil) (by decide)) (GsV.cons (Gv.lstC (vs := [.str "if x", .str "else"]) (Gcs.cons Gc.c (Gcs.cons Gc.c Gcs.nil)) (by decide)) (GsV.cons (Gv.lstC (vs := [.str "round 0"]) (Gcs.cons Gc.c Gcs.nil) (by decide)) (GsV.cons (Gv.lstC (vs := [.str "if x", .str "tell y", .str "else"]) (Gcs.cons Gc.c (Gcs.cons Gc.c (Gcs.cons Gc.c Gcs.nil))) (by decide)) GsV.nil)))) (by decide) (Gc.var rfl) (beg_at w2 hw2)) (by rw [List.length_map, List.length_map]; omega)) List.map_append.symm) Kept.refl (fun u7 H7 k7 r7 => ?_)
        obtain ⟨pb', rfl, eb7⟩ := r7
        have ee7 := k7.lst ee6 fun z => z
        refine after_any (v := .ref pb') ?_
        refine Gv.run (Hb := H7) (Gv.toV (Gv.cat (Gv.pick (w := w2) (bs := endZ.map fun l => l.map V.str) (GsV.cons (Gv.lstC (vs := [.str "else", .str "end"]) (Gcs.cons Gc.c (Gcs.cons Gc.c Gcs.nil)) (by decide)) (GsV.cons (Gv.lstC (vs := [.str "end"]) (Gcs.cons Gc.c Gcs.nil) (by decide)) (GsV.cons (Gv.lstC (vs := [.str "end"]) (Gcs.cons Gc.c Gcs.nil) (by decide)) (GsV.cons (Gv.lstC (vs := [.str "end"]) (Gcs.cons Gc.c Gcs.nil) (by decide)) GsV.nil)))) (by decide) (Gc.var rfl) (end_at w2 hw2)) (Gv.varV rfl ee7) (by rw [List.length_map, List.length_map]; omega)) List.map_append.symm) Kept.refl (fun u8 H8 k8 r8 => ?_)
        obtain ⟨pe', rfl, ee8⟩ := r8
        exact ⟨k06.trans ((k7.trans k8).weak fun _ z => z.elim), D6.stay (k7.trans k8), _, _, S', m', pb', pe', dp', k8.lst eb7 fun z => z, ee8, _, _, _, _, _, rfl⟩
      · refine ⟨.ref pb, rfl, .inl ⟨rfl, _, SqL.of eb6⟩, pb, B, "round 0", rfl, rfl, SqL.of eb6, rfl, _, rfl, ite2 (fun e => ?_) (fun e => ?_)⟩
        · refine ⟨.int (w : Int), rfl, (w : Int), 2, rfl, rfl, (show (0 : Int) < 2 by decide), ?_⟩
          refine qq _ _ ⟨rfl, w % 2, by omega, fun h => by omega, fun h => by omega, ?_⟩
          rw [show ((w % 2 : Nat) : Int) = (w : Int) % 2 by omega]
          rfl
        · have r3 := dp.r3
          have rs := dp.rs
          have e3 : cntS rndZ B ≠ 3 := fun z => e (decide_eq_true (by rw [show cntS "round 0" B = 3 from z]; rfl))
          exact qq _ _ ⟨rfl, w, hw, fun h => by omega, fun h => (by have n5 : i ≠ 5 := fun z => absurd (h5 z) (by omega); omega), rfl⟩
    · obtain ⟨k5, D5, B, E1, S, m, pb, pe, dp, eb, ee1, y3, y4, y5, y6, y7, rfl⟩ := h
      have lB := dp.lB
      have lE := dp.lE
      have dpsz := dp.sz
      have dd := dp.due
      have df : ∀ z ∈ wordZ, Far (nlj (w4T :: inXY :: (B ++ z :: E1))) (B.length + 3) 1 := fun z hz => dp.far hz
      clear dp D2 D0 k12 f1' f2
      refine nx_go ?_
      refine seq_asg ?_
      refine Gv.run (Hb := H5) (Gv.toV (ys := (w4T :: inXY :: B).map V.str) (Gv.cat (Gv.lstC (vs := [.str "wide 4", .str "in x y"]) (Gcs.cons Gc.c (Gcs.cons Gc.c Gcs.nil)) (by decide)) (Gv.varV rfl eb) (by rw [List.length_map]; show 2 + B.length ≤ _; omega)) rfl) Kept.refl (fun u6 H6 k6 r6 => ?_)
      obtain ⟨L, rfl, eL⟩ := r6
      have ee6 := k6.lst ee1 fun z => z
      refine after_any (v := .ref L) ?_
      have n1 := nlj_len (ts := w4T :: inXY :: (B ++ E1)) (fun t ht => by
        rcases List.mem_cons.mp ht with rfl | ht
        · decide +kernel
        rcases List.mem_cons.mp ht with rfl | ht
        · decide +kernel
        · exact dpsz t ht) (by rw [List.length_cons, List.length_cons, List.length_append]; omega)
      refine inst_good (Hb := H6) (Gv.join (ys := w4T :: inXY :: (B ++ E1)) (Gv.toV (Gv.cat (Gv.varV rfl eL) (Gv.varV rfl ee6) (by rw [List.length_map, List.length_map, List.length_cons, List.length_cons]; omega)) (by rw [← List.map_append]; rfl)) n1.1) Kept.refl dd n1.2 fun H7 k7 => ⟨_, rfl, iteF ?_⟩
      have D7 := (D5.stay k6).stay k7
      have K7 := k5.trans ((k6.trans k7).weak fun _ z => z.elim)
      have eL7 := k7.lst eL fun z => z
      have ee7 := k7.lst ee6 fun z => z
      clear k5 k6 k7 D5 eb ee1 eL ee6 dd n1
      refine nx_go ?_
      refine seq_asg ?_
      refine ⟨(show 4 ≤ sizeLine by decide), fun p8 hp8 => ?_⟩
      have k8 : Kept None H7 (upd H7 p8 (.lst [.str "tell x", .str "set x copy y", .str "if x", .str "round 1"])) := Kept.refl.new hp8
      have e8 : upd H7 p8 (.lst [.str "tell x", .str "set x copy y", .str "if x", .str "round 1"]) p8 = some (.lst (wordZ.map V.str)) := upd_same
      have D8 := D7.stay k8
      have p8d := D7.apart hp8
      generalize upd H7 p8 (.lst [.str "tell x", .str "set x copy y", .str "if x", .str "round 1"]) = H8 at k8 e8 D8 ⊢
      refine ⟨.ref d, rfl, d, c, ns, _, 4, rfl, D8, by omega, by decide, by decide, fun r9 H9 a9 b9 k9 D9 => ?_⟩
      obtain ⟨y, hy, z, rfl, hz⟩ : ∃ x, atI (wordZ.map V.str) r9 = some x ∧ ∃ z, x = .str z ∧ z ∈ wordZ := at_nat (m := 4) a9 b9 rfl _ (fun x hx => by
        obtain ⟨z, hz, rfl⟩ := List.mem_map.mp hx
        exact ⟨z, rfl, hz⟩)
      refine ⟨p8, _, r9, .str z, rfl, rfl, SqL.of (k9.lst e8 p8d), hy, ?_⟩
      have k79 : Kept (At d) H7 H9 := (k8.weak fun _ z => z.elim).trans k9
      have eL9 := k79.lst eL7 (D7.nl9 _ _ eL7)
      have ee9 := k79.lst ee7 (D7.nl9 _ _ ee7)
      have K9 := K7.trans k79
      clear K7 k8 k9 k79 D7 D8 eL7 ee7 hy
      refine after_any (v := .str z) ?_
      have zl : z.length ≤ 100 := (by decide +kernel : ∀ z ∈ wordZ, z.length ≤ 100) z hz
      have n2 := nlj_len (ts := w4T :: inXY :: (B ++ z :: E1)) (fun t ht => by
        rcases List.mem_cons.mp ht with rfl | ht
        · decide +kernel
        rcases List.mem_cons.mp ht with rfl | ht
        · decide +kernel
        rcases List.mem_append.mp ht with h | h
        · exact dpsz t (List.mem_append_left _ h)
        rcases List.mem_cons.mp h with rfl | h
        · exact zl
        · exact dpsz t (List.mem_append_right _ h)) (by rw [List.length_cons, List.length_cons, List.length_append, List.length_cons]; omega)
      have lenL : ∀ {ln : Nat} (Hb H : Hp) (L : Addr) (T : List PySem.Str), Hb L = some (.lst (T.map V.str)) → T.length = ln → ∀ {σ : L2.St}, σ[5]? = some (some (.ref L)) → Gv Hb (tOp (rI0 fun i j => .int (i + j)) (tCB (fun xs H Q => ∃ p ys, xs = [V.ref p] ∧ (SqL K H p ys ∨ SqT K H p ys) ∧ Q (.int (ys.length : Int)) H) (tCons (tVar 5) tNil)) (tC (.int 1))) σ (isC (.int ((ln + 1 : Nat) : Int))) := fun Hb H L T e l σ hs H' Q k q => ⟨.ref L, hs, L, _, rfl, .inl (SqL.of (k.lst e fun z => z)), _, 1, rfl, rfl, q _ H' Kept.refl (by rw [List.length_map, l]; rfl)⟩
      refine neq_bad (Hb := H9) (Gv.join (ys := w4T :: inXY :: (B ++ z :: E1)) (Gv.toV (Gv.cat (Gv.cat (Gv.varV rfl eL9) (Gv.lstC (vs := [.str z]) (Gcs.cons (Gc.var rfl) Gcs.nil) (show 1 ≤ sizeLine by decide)) (by rw [List.length_map, List.length_cons, List.length_cons]; show B.length + 1 + 1 + 1 ≤ _; omega)) (Gv.varV rfl ee9) (by rw [List.length_append, List.length_map, List.length_map, List.length_cons, List.length_cons]; show B.length + 1 + 1 + 1 + E1.length ≤ _; omega)) (by rw [List.append_assoc]; exact (List.map_append (l₁ := w4T :: inXY :: B) (l₂ := z :: E1)).symm)) n2.1)
        (Gv.twoG (lenL H9 H9 L _ eL9 (ln := B.length + 2) rfl rfl) (Gc.gv (Gc.c (v := .int ((1 : Nat) : Int))))) Kept.refl (df z hz) n2.2 fun H10 k10 => ⟨_, rfl, iteF ?_⟩
      have eL10 := k10.lst eL9 fun z => z
      have D10 := D9.stay k10
      have K10 := K9.trans (k10.weak fun _ z => z.elim)
      clear K9 k10 D9 eL9 ee9 df dpsz lB lE n2
      refine nx_go ?_
      refine seq_asg ?_
      refine op_go (op_go ?_)
      refine GsV.run (Hb := H10) (bs := varZ.map fun l => l.map V.str) (GsV.cons (Gv.lstC (vs := [.str "if x", .str "round 0"]) (Gcs.cons Gc.c (Gcs.cons Gc.c Gcs.nil)) (by decide)) (GsV.cons (Gv.lstC (vs := [.str "round 0", .str "if x"]) (Gcs.cons Gc.c (Gcs.cons Gc.c Gcs.nil)) (by decide)) (GsV.cons (Gv.lstC (vs := [.str "round 0"]) (Gcs.cons Gc.c Gcs.nil) (by decide)) GsV.nil))) Kept.refl (by decide) (fun vs H11 k11 lv rv p11 hp11 => ?_)
      have k12 : Kept None H11 (upd H11 p11 (.lst vs)) := Kept.refl.new hp11
      have e12 : upd H11 p11 (.lst vs) p11 = some (.lst vs) := upd_same
      have D12 := (D10.stay k11).stay k12
      have p11d := (D10.stay k11).apart hp11
      generalize upd H11 p11 (.lst vs) = H12 at k12 e12 D12 ⊢
      refine ⟨.ref d, rfl, d, c, ns, _, 3, rfl, D12, by omega, by decide, by decide, fun r13 H13 a13 b13 k13 D13 => ?_⟩
      obtain ⟨w, rfl⟩ := Int.eq_ofNat_of_zero_le a13
      have hw : w < varZ.length := by show w < 3; omega
      have hv := List.getElem?_eq_getElem hw
      have hvm := List.mem_of_getElem? hv
      generalize varZ[w] = vz at hv hvm
      obtain ⟨pw, epw, hpw⟩ := rv w (vz.map V.str) (by rw [List.getElem?_map, hv]; rfl)
      have k1013 : Kept (At d) H10 H13 := ((k11.trans k12).weak fun _ z => z.elim).trans k13
      have hpw13 := k13.lst (k12.lst hpw fun z => z) (D12.nl9 _ _ (k12.lst hpw fun z => z))
      have eL13 := k1013.lst eL10 (D10.nl9 _ _ eL10)
      refine ⟨p11, vs, (w : Int), .ref pw, rfl, rfl, SqL.of (k13.lst e12 p11d), atI_nat epw, ?_⟩
      have K13 := K10.trans k1013
      clear K10 k1013 D10 D12 k11 k12 k13 rv hpw eL10 e12 hv epw
      refine ⟨(show 2 ≤ sizeLine by decide), fun p14 hp14 => ?_⟩
      have k14 : Kept None H13 (upd H13 p14 (.lst [.str "round 12", .str "round 1"])) := Kept.refl.new hp14
      have e14 : upd H13 p14 (.lst [.str "round 12", .str "round 1"]) p14 = some (.lst (tl2.map V.str)) := upd_same
      have hpw14 := k14.lst hpw13 fun z => z
      have eL14 := k14.lst eL13 fun z => z
      generalize upd H13 p14 (.lst [.str "round 12", .str "round 1"]) = H14 at k14 e14 hpw14 eL14 ⊢
      obtain ⟨g1, g2, g3, g4, g5⟩ := three_facts vz hvm
      have l2 : (vz ++ tl2).length = vz.length + 2 := List.length_append
      refine ⟨pw, p14, _, _, rfl, rfl, hpw14, e14, by rw [List.length_map, List.length_map]; show vz.length + 2 ≤ _; omega, fun p15 hp15 => ?_⟩
      have k15 : Kept None H14 (upd H14 p15 (.lst (vz.map V.str ++ tl2.map V.str))) := Kept.refl.new hp15
      have e15 : upd H14 p15 (.lst (vz.map V.str ++ tl2.map V.str)) p15 = some (.lst ((vz ++ tl2).map V.str)) := by rw [upd_same, List.map_append]
      have eL15 := k15.lst eL14 fun z => z
      have D15 := (D13.stay k14).stay k15
      have K15 := K13.trans ((k14.trans k15).weak fun _ z => z.elim)
      generalize upd H14 p15 (.lst (vz.map V.str ++ tl2.map V.str)) = H15 at k15 e15 eL15 D15 K15 ⊢
      clear K13 k14 k15 D13 hpw13 hpw14 eL13 eL14 e14
      generalize vz ++ tl2 = bz at g1 g2 g3 g4 g5 e15 l2
      refine after_any (v := .ref p15) ?_
      refine seq_asg ?_
      refine Gv.run (Hb := H15) (Gv.toV (ys := (w4T :: inXY :: bz).map V.str) (Gv.cat (Gv.slice (K := K) (Gv.varV rfl eL15) Pt.none Pt.int) (Gv.varV rfl e15) (by rw [cut2t, List.length_map, List.length_take]; omega)) (by rw [cut2t]; rfl)) Kept.refl (fun u16 H16 k16 r16 => ?_)
      obtain ⟨L2, rfl, eL2⟩ := r16
      have e16 := k16.lst e15 fun z => z
      have D16 := D15.stay k16
      have K16 := K15.trans (k16.weak fun _ z => z.elim)
      clear K15 k16 D15 eL15 e15
      refine after_any (v := .ref L2) ?_
      refine seq_asg ?_
      refine ⟨.ref p15, rfl, p15, _, rfl, SqL.of e16, fun pr hpr => ⟨pr, rfl, ⟨_, SqL.of upd_same⟩, fun J hJ => ?_⟩⟩
      have k17 : Kept None H16 (upd H16 pr (.lst (bz.map V.str).reverse)) := Kept.refl.new hpr
      have er : upd H16 pr (.lst (bz.map V.str).reverse) pr = some (.lst (bz.reverse.map V.str)) := by rw [upd_same, List.map_reverse]
      have eL17 := k17.lst eL2 fun z => z
      have D17 := D16.stay k17
      generalize upd H16 pr (.lst (bz.map V.str).reverse) = H17 at k17 er hJ eL17 D17 ⊢
      have K17 := K16.trans (k17.weak fun _ z => z.elim)
      clear K16 k17 D16 eL2 e16
      refine lc_list (K := K) (a := pr) (xs := bz.reverse.map V.str) (fun i H' => Kept None H17 H' ∧ ∃ as : List Addr, H' J = some (.lst (as.map V.ref)) ∧ as.length = i ∧ ∀ (j : Nat) (a : Addr) (z : PySem.Str), as[j]? = some a → bz.reverse[j]? = some z → a ≠ J ∧ H' a = some (.lst ((clo z).map V.str)))
        ⟨Kept.refl.new hJ, [], upd_same, rfl, fun j a z h => by cases h⟩ (fun i H' _ h => SqL.of (h.1.lst er (fun z => z))) (fun i x H' hx h => ?_) (fun H18 h => ?_)
      · obtain ⟨k18, as, e18, la, ra⟩ := h
        rw [List.getElem?_map] at hx
        obtain ⟨z, hz, rfl⟩ := Option.map_eq_some_iff.mp hx
        have hlt := (List.getElem?_eq_some_iff.mp hz).1
        rw [List.length_reverse] at hlt
        refine ⟨rfl, ?_⟩
        unfold tYes
        dsimp only
        rw [if_pos rfl]
        have fin : ∀ (p : Addr), H' p = none → clo z = (if z = "if x" then ee else e1) → ∀ H9 : Hp, H9 = upd H' p (.lst ((clo z).map V.str)) → ∃ xs, H9 J = some (.lst xs) ∧ xs.length < sizeLine ∧ (Kept None H17 (upd H9 J (.lst (xs ++ [.ref p]))) ∧ ∃ as : List Addr, upd H9 J (.lst (xs ++ [.ref p])) J = some (.lst (as.map V.ref)) ∧ as.length = i + 1 ∧ ∀ (j : Nat) (a : Addr) (z : PySem.Str), as[j]? = some a → bz.reverse[j]? = some z → a ≠ J ∧ upd H9 J (.lst (xs ++ [.ref p])) a = some (.lst ((clo z).map V.str))) := fun p hp _ H9 e9 => by
          subst e9
          have kp : Kept None H' (upd H' p (.lst ((clo z).map V.str))) := Kept.refl.new hp
          have pJ : p ≠ J := fun z => by rw [z, e18] at hp; cases hp
          refine ⟨_, kp.lst e18 fun z => z, by rw [List.length_map]; omega, fun b o e nb => ?_, as ++ [p], by rw [upd_same, List.map_append]; rfl, by rw [List.length_append, la]; rfl, fun j a z' ha hz' => ?_⟩
          · rw [upd_ne (ne_of_none e hJ)]
            exact (k18.trans kp) b o e nb
          · by_cases hj : j < as.length
            · rw [List.getElem?_append_left hj] at ha
              obtain ⟨h1, h2⟩ := ra j a z' ha hz'
              exact ⟨h1, by rw [upd_ne h1]; exact kp.lst h2 fun z => z⟩
            · rw [List.getElem?_append_right (by omega)] at ha
              have j0 : j - as.length = 0 := by
                rcases Nat.eq_zero_or_pos (j - as.length) with h | h
                · exact h
                · rw [List.getElem?_eq_none (by rw [List.length_singleton]; exact h)] at ha; cases ha
              rw [j0] at ha
              cases ha
              have ji : j = i := by omega
              subst ji
              rw [hz] at hz'
              cases hz'
              exact ⟨pJ, by rw [upd_ne pJ]; exact upd_same⟩
        refine ⟨.str z, rfl, rfl, _, rfl, ite2 (fun e => ?_) (fun e => ?_)⟩
        · have ez : z = "if x" := V.str.inj (of_decide_eq_true e)
          refine ⟨(show 2 ≤ sizeLine by decide), fun p hp => ?_⟩
          have ec : clo z = ee := by unfold clo; rw [if_pos ez]
          have := fin p hp rfl _ rfl
          rw [ec] at this
          exact this
        · have ez : z ≠ "if x" := fun h => e (decide_eq_true (congrArg V.str h))
          refine ⟨(show 1 ≤ sizeLine by decide), fun p hp => ?_⟩
          have ec : clo z = e1 := by unfold clo; rw [if_neg ez]
          have := fin p hp rfl _ rfl
          rw [ec] at this
          exact this
      · obtain ⟨k18, as, e18, la, ra⟩ := h
        have lb : as.length = bz.reverse.length := by rw [la, List.length_map]
        refine ⟨(show 0 ≤ sizeLine by decide), fun Z hZ => ?_⟩
        have k19 : Kept None H18 (upd H18 Z (.lst [])) := Kept.refl.new hZ
        have eZ : upd H18 Z (.lst []) Z = some (.lst []) := upd_same
        generalize upd H18 Z (.lst []) = H19 at k19 eZ ⊢
        refine ⟨J, Z, as, bz.reverse.map (fun z => (clo z).map V.str), rfl, k19.lst e18 fun z => z, eZ, by rw [List.length_map]; exact lb, by rw [lb, List.length_reverse]; omega, fun j a l ha hl => ?_, fun pe2 H20 k20 e20 => ?_⟩
        · rw [List.getElem?_map] at hl
          obtain ⟨z, hz, rfl⟩ := Option.map_eq_some_iff.mp hl
          obtain ⟨_, h2⟩ := ra j a z ha hz
          refine ⟨k19.lst h2 fun z => z, ?_⟩
          rw [List.length_map]
          unfold clo
          split <;> decide
        have k1720 := (k18.trans k19).trans k20
        have e20' : H20 pe2 = some (.lst ((enZ bz).map V.str)) := by
          rw [e20]
          unfold enZ
          rw [List.map_flatten, List.map_map]
          rfl
        have eL20 := k1720.lst eL17 fun z => z
        have D20 := D17.stay k1720
        have K20 := K17.trans (k1720.weak fun _ z => z.elim)
        clear K17 D17 eL17 k1720 k18 k19 k20 e18 e20 ra
        refine after_any (v := .ref pe2) ?_
        have n3 := nlj_len (ts := w4T :: inXY :: (bz ++ telX ++ enZ bz)) (fun t ht => by
          rcases List.mem_cons.mp ht with rfl | ht
          · decide +kernel
          rcases List.mem_cons.mp ht with rfl | ht
          · decide +kernel
          · refine g3 t ?_
            simp only [List.mem_append] at ht ⊢
            rcases ht with (h | h) | h
            · exact .inl (.inl (.inl h))
            · exact .inl (.inl (.inr h))
            · exact .inr h) (by rw [List.length_cons, List.length_cons, List.length_append, List.length_append]; show bz.length + 1 + (enZ bz).length + 1 + 1 ≤ 100; omega)
        have n4 := nlj_len (ts := w4T :: inXY :: (bz ++ rndE ++ enZ bz)) (fun t ht => by
          rcases List.mem_cons.mp ht with rfl | ht
          · decide +kernel
          rcases List.mem_cons.mp ht with rfl | ht
          · decide +kernel
          · refine g3 t ?_
            simp only [List.mem_append] at ht ⊢
            rcases ht with (h | h) | h
            · exact .inl (.inl (.inl h))
            · exact .inl (.inr h)
            · exact .inr h) (by rw [List.length_cons, List.length_cons, List.length_append, List.length_append]; show bz.length + 2 + (enZ bz).length + 1 + 1 ≤ 100; omega)
        refine inst_good (Hb := H20) (Gv.join (ys := w4T :: inXY :: (bz ++ telX ++ enZ bz)) (Gv.toV (Gv.cat (Gv.cat (Gv.varV rfl eL20) (Gv.lstC (vs := [.str "tell x"]) (Gcs.cons Gc.c Gcs.nil) (by decide)) (by rw [List.length_map, List.length_cons, List.length_cons]; show bz.length + 1 + 1 + 1 ≤ _; omega)) (Gv.varV rfl e20') (by rw [List.length_append, List.length_map, List.length_map, List.length_cons, List.length_cons]; show bz.length + 1 + 1 + 1 + (enZ bz).length ≤ _; omega)) (by rw [← List.cons_append, ← List.cons_append, ← List.cons_append, ← List.cons_append, List.map_append, List.map_append]; rfl)) n3.1) Kept.refl g1 n3.2 fun H21 k21 => ⟨_, rfl, iteF ?_⟩
        have eL21 := k21.lst eL20 fun z => z
        have ee21 := k21.lst e20' fun z => z
        refine eq_bad (Hb := H21) (Gv.join (ys := w4T :: inXY :: (bz ++ rndE ++ enZ bz)) (Gv.toV (Gv.cat (Gv.cat (Gv.varV rfl eL21) (Gv.lstC (vs := [.str "round 0", .str "end"]) (Gcs.cons Gc.c (Gcs.cons Gc.c Gcs.nil)) (by decide)) (by rw [List.length_map, List.length_cons, List.length_cons]; show bz.length + 1 + 1 + 2 ≤ _; omega)) (Gv.varV rfl ee21) (by rw [List.length_append, List.length_map, List.length_map, List.length_cons, List.length_cons]; show bz.length + 1 + 1 + 2 + (enZ bz).length ≤ _; omega)) (by rw [← List.cons_append, ← List.cons_append, ← List.cons_append, ← List.cons_append, List.map_append, List.map_append]; rfl)) n4.1)
          (Gv.twoG (lenL H21 H21 L2 _ eL21 (ln := bz.length + 2) rfl rfl) (Gc.gv (Gc.c (v := .int ((1 : Nat) : Int))))) Kept.refl g2 n4.2 fun H22 k22 => ?_
        exact q H22 (K20.trans ((k21.trans k22).weak fun _ z => z.elim)) ((D20.stay (k21.trans k22)).more (by omega))
end
end K9

set_option Elab.async false
set_option linter.all false
set_option maxRecDepth 100000
set_option maxHeartbeats 1600000
namespace K9
open PySem PySem.Spec PyProof.Rows L2 TL
/-! ### the law -/
abbrev sLaw : Stmt := top 49
theorem scLaw : FnScope ["script", "draw", "turn"] ["script"] (defScope sLaw) := ⟨rfl, rfl, rfl, by decide +kernel, rfl, by decide +kernel, by decide +kernel⟩
def spLaw (K : PySem.W.Frag) : Sp := fun vs H Q _ => ∃ (a : Addr) (ns : List Int), vs = [.ref a] ∧ SqL K H a (ns.map V.int) ∧ ns.length ≤ 63 ∧ ∀ H', Q (.bl true) H'
section
variable {P : Program} {w : World} {K : PySem.W.Frag} {mg : PySem.Str → Option Value} {base : Heap} {f : Addr} {fd : FuncData}
theorem ok_law (F : FnP K "law" sLaw f fd) (dB : Def P w K mg base 1 "_law_begin" ["script"] (spBegin K)) (dH : Def P w K mg base 26 "_law_heads_right" [] spYes) (dL : Def P w K mg base 26 "_law_long_right" [] spYes) (dR : Def P w K mg base 26 "_law_rows_right" ["draw"] spDr1) (dD : Def P w K mg base 26 "_law_deep_right" ["draw"] spDr1) (m_range : mg "range" = none) : FnOk P w K mg base CX0 27 f fd ["script"] (spLaw K) := by
  obtain ⟨fB, fdB, GB, bB, kB, gB⟩ := dB
  obtain ⟨fH, fdH, GH, bH, kH, gH⟩ := dH
  obtain ⟨fL, fdL, GL, bL, kL, gL⟩ := dL
  obtain ⟨fR, fdR, GR, bR, kR, gR⟩ := dR
  obtain ⟨fD, fdD, GD, bD, kD, gD⟩ := dD
  refine F.ok (k := 26) scLaw (fun vs H Q E h => ?_) (fun cdv A outer s H vs Q E hr h => ?_)
  · obtain ⟨a, ns, rfl, _⟩ := h
    rfl
  · obtain ⟨a, ns, rfl, hS, hl, q⟩ := h
    have GB := GB.mono (show 1 ≤ 26 by decide)
    refine ⟨_, PSs.nox (pss_cons (ps_set (i := 1) scLaw.nd rfl (Or.inl rfl) (pe_call GB hr (by rfl) gB kB bB .nil pass0 (pa_cons (pv 0) pa_nil)))
    (pss_cons (ps_if (PW.pt (pw_or (pt_not (pt_val (pe_call0 GH hr (by rfl) gH kH bH .nil pass0))) (pw_or1 (pt_not (pt_val (pe_call0 GL hr (by rfl) gL kL bL .nil pass0))))))
      (pss_one (ps_ret pe_bl))
      pss_nil)
    (pss_cons (ps_for PassesOwn.never rfl (pi_range1 rfl m_range (pa_cons pe_int pa_nil)) (pg_name (i := 2) scLaw.nd rfl (Or.inl rfl))
      (pss_one (ps_if (PW.pt (pw_or (pt_not (pt_val (pe_call GR hr (by rfl) gR kR bR .nil pass0 (pa_cons (pv 1) pa_nil)))) (pw_or1 (pt_not (pt_val (pe_call GD hr (by rfl) gD kD bD .nil pass0 (pa_cons (pv 1) pa_nil)))))))
        (pss_one (ps_ret pe_bl))
        pss_nil)))
    (pss_one (ps_ret pe_bl))))), ?_⟩
    refine ⟨.ref a, rfl, a, ns, rfl, hS, hl, fun d c H1 nd k1 D1 => ?_⟩
    refine ⟨rfl, fun H2 k2 => ⟨_, rfl, iteF ⟨rfl, fun H3 k3 => ⟨_, rfl, iteF ?_⟩⟩⟩⟩
    have D3 := (D1.stay k2).stay k3
    refine ⟨3, rfl, by decide, by decide, ?_⟩
    refine for_range (lo := 0) (n := 3) (fun i σ H' => Dr H' d c (ns ++ [0]) (20000 * i) ∧ ∃ y2, σ = [some (.ref a), some (.ref d), y2]) ⟨D3, _, rfl⟩ (fun i σ H4 hi h => ?_) (fun σ H4 h => ?_)
    · obtain ⟨D4, y2, rfl⟩ := h
      refine ⟨.ref d, rfl, d, c, ns ++ [0], _, rfl, D4, by omega, fun H5 k5 D5 => ⟨_, rfl, iteF ⟨.ref d, rfl, d, c, ns ++ [0], _, rfl, D5, by omega, fun H6 k6 D6 => ⟨_, rfl, iteF ?_⟩⟩⟩⟩
      exact ⟨D6.more (by omega), _, rfl⟩
    · exact q _
end
end K9

set_option Elab.async false
set_option linter.all false
set_option maxRecDepth 100000
set_option maxHeartbeats 0
namespace K9
open PySem PySem.W PySem.Spec PyProof.Rows L2
/-! ### the head: facts by names, the class, the table, the run -/
def mkD (x : PySem.Str) (i : Nat) : He.DefD := ⟨(x, none), x, x, defArgs (top i), defBody (top i), defScope (top i), [], []⟩
def mkM (m q : PySem.Str) (j : Nat) : He.DefD := ⟨("Text", some m), m, q, defArgs (inClass (top 30) j), defBody (inClass (top 30) j), defScope (inClass (top 30) j), [], []⟩
def fn : List He.DefD := [mkD "is_name" 16, mkD "number_in" 17, mkD "rows_of" 18, mkD "program_in" 29, mkD "expr_text" 32, mkD "program_text" 33, mkD "_show_rows" 34, mkD "_show_within" 35, mkD "_law_begin" 37, mkD "_law_mixed" 38, mkD "_law_next" 39, mkD "_law_name" 40, mkD "_law_expr" 41, mkD "_law_class" 42, mkD "_law_said" 43, mkD "_law_lines_beyond" 44, mkD "_law_heads_right" 45, mkD "_law_rows_right" 46, mkD "_law_deep_right" 47, mkD "_law_long_right" 48, mkD "law" 49, mkM "__init__" "Text.__init__" 0, mkM "read_program" "Text.read_program" 1, mkM "read_inputs" "Text.read_inputs" 2, mkM "read_rows" "Text.read_rows" 3, mkM "read_set" "Text.read_set" 4, mkM "read_if" "Text.read_if" 5, mkM "read_round" "Text.read_round" 6, mkM "take_line_of" "Text.take_line_of" 7, mkM "take_closing" "Text.take_closing" 8, mkM "name_behind" "Text.name_behind" 9, mkM "number_behind" "Text.number_behind" 10, mkM "number_of" "Text.number_of" 11, mkM "are_names" "Text.are_names" 12, mkM "refuse_first_wrong" "Text.refuse_first_wrong" 13, mkM "fits" "Text.fits" 14, mkM "refuse" "Text.refuse" 15, ⟨("BadText", some "__init__"), "__init__", "BadText.__init__", defArgs sBad, defBody sBad, defScope sBad, [], []⟩]
def fa : List He.Fa := [.glo "is_name", .glo "number_in", .glo "rows_of", .glo "program_in", .glo "expr_text", .glo "program_text", .glo "_show_rows", .glo "_show_within", .glo "_law_begin", .glo "_law_mixed", .glo "_law_next", .glo "_law_name", .glo "_law_expr", .glo "_law_class", .glo "_law_said", .glo "_law_lines_beyond", .glo "_law_heads_right", .glo "_law_rows_right", .glo "_law_deep_right", .glo "_law_long_right", .glo "law", .free "type", .free "str", .free "tuple", .free "len", .free "range", .free "list", .free "int", .free "isinstance", .free "ValueError", .free "bool", .free "enumerate", .free "min", .free "max", .free "sum", .int "LONGEST_NAME" 8, .int "MOST_FIGURES" 4, .int "WIDEST" 12, .int "MOST_INPUTS" 4, .int "MOST_ROWS" 60, .int "MOST_WITHIN" 6, .int "MOST_ROUNDS_WITHIN" 3, .int "MOST_GOINGS" 12, .int "MOST_SHIFT" 11, .glo "BitError", .glo "BadText", .glo "BadAsked", .glo "BadFacts", .glo "BadInput", .glo "BadLine", .glo "BadPaper", .glo "BadPlace", .glo "BadProgram", .glo "BadWidths", .glo "TooMany", .glo "Unsound", .glo "EXPR_PARTS", .glo "CLOSING_WORDS", .glo "Text", .cls "Text", .mkr "Text", .noat "Text" "all_lines", .noat "Text" "lines", .noat "Text" "taken", .noat "Text" "many_rows", .noat "Text" "names", .noat "Text" "bounds", .meth "Text" "read_program", .meth "Text" "read_inputs", .meth "Text" "read_rows", .meth "Text" "read_set", .meth "Text" "read_if", .meth "Text" "read_round", .meth "Text" "take_line_of", .meth "Text" "take_closing", .meth "Text" "name_behind", .meth "Text" "number_behind", .meth "Text" "number_of", .meth "Text" "are_names", .meth "Text" "refuse_first_wrong", .meth "Text" "fits", .meth "Text" "refuse"]
def tkv : List (PySem.Str × List PySem.Str) := [("number", ["word"]), ("copy", ["name"]), ("add", ["name", "name"]), ("less", ["name", "name"]), ("and", ["name", "name"]), ("or", ["name", "name"]), ("unlike", ["name", "name"]), ("same", ["name", "name"]), ("below", ["name", "name"]), ("up", ["name", "shift"]), ("down", ["name", "shift"]), ("pick", ["name", "name", "name"])]
def tb : List He.Tab := [(fun K => He.ga K "EXPR_PARTS", tkv.map (·.1))]
def tupA (K : PySem.W.Frag) (a : Addr) (vs : List V) : Bool := match K.lookup a with
  | some ⟨.type c, _, .seq its _, _⟩ => decide (c = "tuple") && (decide (its.size ≤ sizeLine) && He.relAll vs its.toList)
  | _ => false
theorem tupA_ok {K : PySem.W.Frag} {a : Addr} {vs : List V} (h : tupA K a vs = true) (H : Hp) : SqT K H a vs := by
  unfold tupA at h
  cases q : K.lookup a with
  | none =>
    rw [q] at h
    cases h
  | some o =>
    obtain ⟨oc, od, dt, osl⟩ := o
    rw [q] at h
    cases oc with
    | type c =>
      cases dt with
      | seq its n =>
        obtain ⟨h1, h2⟩ := He.ba (show (decide (c = "tuple") && (decide (its.size ≤ sizeLine) && He.relAll vs its.toList)) = true from h)
        obtain ⟨h3, h4⟩ := He.ba h2
        exact .inr ⟨_, its, n, q, congrArg Value.type (of_decide_eq_true h1), rfl, of_decide_eq_true h3, He.relAll_ok h4⟩
      | _ => cases h
    | _ => cases dt <;> cases h
def entB (K : PySem.W.Frag) (q : PySem.Str × List PySem.Str) : Bool := match PySem.W.nsIn K (He.ga K "EXPR_PARTS") q.1 with
  | some (some (.ref p)) => tupA K p (q.2.map V.str)
  | _ => false
theorem entB_ok {K : PySem.W.Frag} {q : PySem.Str × List PySem.Str} (h : entB K q = true) : ∃ p, PySem.W.nsIn K (He.ga K "EXPR_PARTS") q.1 = some (some (.ref p)) ∧ ∀ H, SqT K H p (q.2.map V.str) := by
  unfold entB at h
  cases e : PySem.W.nsIn K (He.ga K "EXPR_PARTS") q.1 with
  | none => rw [e] at h; cases h
  | some r =>
    rw [e] at h
    cases r with
    | none => cases h
    | some u =>
      cases u with
      | ref p => exact ⟨p, rfl, fun H => tupA_ok h H⟩
      | _ => cases h
def oexB (K : PySem.W.Frag) (C : Addr) : Bool := (match K.lookup C with
  | some ⟨.type "type", _, .cls cd, sl⟩ => (match cd.mro, sl.toList with
    | .ref D :: bm, [_, _, _, _, some (.builtin n), _] => decide (D = C) && (decide (n = "ValueError.__new__") && (!cd.hasDel && (cd.hasDict && PySem.HandSPX.refsVE bm)))
    | _, _ => false)
  | _ => false)
theorem oexB_ok {K : PySem.W.Frag} {C : Addr} (q : oexB K C = true) : ∃ nm qn N bs bm sn sub ab col dd k0 k1 k2 k3 k5, K.lookup C = some (excClassObj nm qn C N bs bm true sn sub ab col dd k0 k1 k2 k3 k5 "ValueError.__new__") ∧ PySem.HandSPX.refsVE bm = true := by
  unfold oexB at q
  split at q
  · rename_i dd cd sl look
    split at q
    · rename_i D bm k0 k1 k2 k3 n k5 hm hs
      obtain ⟨q1, q⟩ := He.ba q
      obtain ⟨q2, q⟩ := He.ba q
      obtain ⟨q3, q⟩ := He.ba q
      obtain ⟨q4, q5⟩ := He.ba q
      obtain rfl := of_decide_eq_true q1
      obtain rfl := of_decide_eq_true q2
      obtain ⟨nm, bs, mro, ns, qn, hd, sn, sub, ab, col, del⟩ := cd
      dsimp only at hm q3 q4
      subst hm q4
      have q3 : del = false := by cases del <;> first | rfl | cases q3
      subst q3
      obtain ⟨l⟩ := sl
      dsimp only at hs
      subst hs
      exact ⟨nm, qn, ns, bs, bm, sn, sub, ab, col, dd, k0, k1, k2, k3, k5, look, q5⟩
    · cases q
  · cases q
def mkB (K : PySem.W.Frag) (C : Addr) : Bool := oexB K C && (He.eqO (PySem.W.findIn K (.ref C) "__setattr__") (some (some (.builtin "object.__setattr__"))) && (decide (PySem.W.subIn K (.ref C) (.type "BaseException") = some true) && (decide (PySem.W.typeIn K (.ref C) = some (.type "type")) && (PySem.W.keepIn K (.ref C) &&
  (He.eqO (PySem.W.findIn K (.ref C) "__init__") (some (some (.ref (He.ma K C "__init__")))) && (decide (PySem.W.typeIn K (.ref (He.ma K C "__init__")) = some (.type "function")) && xfB K C))))))
theorem mkB_ok {K : PySem.W.Frag} {C : Addr} (q : mkB K C = true) : MkC K C (He.ma K C "__init__") ∧ XfC K C := by
  obtain ⟨q1, q⟩ := He.ba q
  obtain ⟨q2, q⟩ := He.ba q
  obtain ⟨q3, q⟩ := He.ba q
  obtain ⟨q4, q⟩ := He.ba q
  obtain ⟨q5, q⟩ := He.ba q
  obtain ⟨q6, q⟩ := He.ba q
  obtain ⟨q7, q8⟩ := He.ba q
  exact ⟨⟨⟨oexB_ok q1, He.eqO_ok q2, of_decide_eq_true q3, of_decide_eq_true q4, q5⟩, He.eqO_ok q6, of_decide_eq_true q7⟩, xfB_ok q8⟩
def excB (K : PySem.W.Frag) (C : Addr) : Bool := xfB K C && (He.eqO (PySem.W.findIn K (.ref C) "__class__") (some (some (.builtin "object.__class__"))) && PySem.W.mroIn K C (.type "object") == some true)
def comB (K : PySem.W.Frag) : Bool := He.eqO (PySem.W.specialIn K (.builtin "object.__class__") "__get__") (some (some (.builtin "getset_descriptor.__get__"))) && decide (PySem.W.takesIn K (.builtin "object.__class__") = some true)
theorem excB_ok {K : PySem.W.Frag} {C : Addr} (q : excB K C = true) (c : comB K = true) : ExcC K C := by
  obtain ⟨q1, q⟩ := He.ba q
  obtain ⟨q2, q3⟩ := He.ba q
  obtain ⟨c1, c2⟩ := He.ba c
  have x := xfB_ok q1
  exact ⟨x.ga, x.gg, x.exC, x.hdC, He.eqO_ok q2, He.eqO_ok c1, of_decide_eq_true c2, eq_of_beq q3⟩
def baseB (K : PySem.W.Frag) (B : Addr) : Bool := He.eqO (PySem.W.specialIn K (.ref B) "__getattribute__") (some (some (.builtin "type.__getattribute__"))) && (PySem.W.readsIn K B (.type "type") && (match PySem.W.findCls K (.ref B) (.type "type") "__init__" with
  | some (.val v) => decide (v = .builtin "ValueError.__init__")
  | _ => false))
theorem baseB_ok {K : PySem.W.Frag} {B : Addr} (q : baseB K B = true) : BaseC K B := by
  obtain ⟨q1, q⟩ := He.ba q
  obtain ⟨q2, q3⟩ := He.ba q
  refine ⟨He.eqO_ok q1, q2, ?_⟩
  split at q3
  · rename_i v e
    rw [e, of_decide_eq_true q3]
  · cases q3

abbrev cb (K : PySem.W.Frag) : Addr := He.ga K "BadText"
abbrev be (K : PySem.W.Frag) : Addr := He.ga K "BitError"
def oths : List PySem.Str := ["BadAsked", "BadFacts", "BadInput", "BadLine", "BadPaper", "BadPlace", "BadProgram", "BadWidths", "TooMany", "Unsound"]
def onlyB (K : PySem.W.Frag) (D : Addr) : Bool := match K.lookup D with
  | some ⟨_, _, .dict es _, _⟩ => es.toList.all fun e => match e.key with
    | .str x _ => exprB x
    | _ => false
  | _ => false
theorem onlyB_ok {K : PySem.W.Frag} {D : Addr} (h : onlyB K D = true) {z : PySem.Str} (hz : exprB z = false) : PySem.W.nsIn K D z = some none := by
  unfold onlyB at h
  unfold PySem.W.nsIn
  split at h
  · rename_i look
    rw [look]
    dsimp only
    have all := List.all_eq_true.mp h
    rw [List.find?_eq_none.mpr fun e he q => ?_]
    · dsimp only
      rw [if_neg fun q => ?_]
      obtain ⟨e, he, qe⟩ := List.any_eq_true.mp q
      have g := all e he
      unfold DictEntry.refKey at qe
      split at qe
      · rename_i a ek
        rw [ek] at g
        cases g
      · cases qe
    · have g := all e he
      cases ek : e.key with
      | str x t =>
        rw [ek] at g q
        have q2 : (x == z) = true := q
        rw [eq_of_beq q2] at g
        have g2 : exprB z = true := g
        rw [hz] at g2
        cases g2
      | _ => rw [ek] at g; cases g
  · cases h
def exq (K : PySem.W.Frag) : Bool := comB K && (excB K (cb K) && (mkB K (cb K) && (baseB K (be K) && (He.eqO (PySem.W.findIn K (.ref (cb K)) "line") (some none) && (He.eqO (PySem.W.findIn K (.ref (cb K)) "word") (some none) && (decide (PySem.W.kitOne K (.ref (cb K)) (.ref (cb K)) = some true) && (decide (PySem.W.kitOne K (.ref (cb K)) (.type "ValueError") = some true) &&
  (decide (PySem.W.exmOne K (.ref (cb K)) (.ref (be K)) = some true) && ((oths.all fun x => decide (PySem.W.kitOne K (.ref (cb K)) (.ref (He.ga K x)) = some false)) && onlyB K (He.ga K "EXPR_PARTS"))))))))))
def ex (K : PySem.W.Frag) : Bool := exq K && (tkv.all (entB K) && tupA K (He.ga K "CLOSING_WORDS") [.str "else", .str "end"])
abbrev R : PySem.W.OpenRow := PySem.W.OpenLaw.row PySem.Challenge.rw_bitneed_k09_bounds_of_texts
def fr8 (g : Addr → Option Obj) : PySem.W.Frag := He.frT g (He.asD g 4 ++ [cStatics])
def obS (g : Addr → Option Obj) : He.AlX := (He.obsT fa fn tb (fr8 g), ex (fr8 g))
theorem says8 {w : World} {h : Heap} (e : obS h.get? = He.valX fn tb w) : He.SaysX fa fn tb [] ex w h (fr8 h.get?) :=
  ⟨congrArg (fun z : He.AlX => z.1) e, congrArg (fun z : He.AlX => z.2) e, fun p hp => (by cases hp), fun p hp => (by cases hp), fun p hp => (by cases hp)⟩
def hkS : PySem.W.Hook where
  α := He.AlX
  obs := fun s => obS s.heap.get?
  val := fun w => He.valX fn tb w
  says := fun w h => ∃ K : PySem.W.Frag, K.In h ∧ He.SaysX fa fn tb [] ex w h K
  of := fun _ _ e => ⟨_, He.frT_in, says8 e⟩
  keeps := fun _ _ _ ⟨K, hK, c⟩ k => ⟨K, PySem.W.Frag.In.keeps hK k, ⟨c.t, c.more, c.hd, c.out, fun p hp => k _ _ (c.empty p hp)⟩⟩
def ob (s : PySem.W.SharedT) : He.AlX := obS (HandSHeadRun.getT s)
theorem ob_eq (s : PySem.W.SharedT) : ob s = hkS.obs s.abs := congrArg obS (funext (HandSHeadRun.getT_eq s))
def loose : List PySem.Str := [("BitError" : PySem.Str), ("BadText" : PySem.Str), ("Unsound" : PySem.Str), ("BadProgram" : PySem.Str), ("BadInput" : PySem.Str), ("BadPlace" : PySem.Str), ("BadFacts" : PySem.Str), ("BadWidths" : PySem.Str), ("BadPaper" : PySem.Str), ("BadAsked" : PySem.Str), ("TooMany" : PySem.Str), ("BadLine" : PySem.Str), ("LONGEST_NAME" : PySem.Str), ("MOST_FIGURES" : PySem.Str), ("is_name" : PySem.Str), ("number_in" : PySem.Str), ("rows_of" : PySem.Str), ("WIDEST" : PySem.Str), ("MOST_INPUTS" : PySem.Str), ("MOST_ROWS" : PySem.Str), ("MOST_WITHIN" : PySem.Str), ("MOST_ROUNDS_WITHIN" : PySem.Str), ("MOST_GOINGS" : PySem.Str), ("MOST_SHIFT" : PySem.Str), ("EXPR_PARTS" : PySem.Str), ("CLOSING_WORDS" : PySem.Str), ("program_in" : PySem.Str), ("Text" : PySem.Str), ("expr_text" : PySem.Str), ("program_text" : PySem.Str), ("_show_rows" : PySem.Str), ("_show_within" : PySem.Str), ("_law_begin" : PySem.Str), ("_law_mixed" : PySem.Str), ("_law_next" : PySem.Str), ("_law_name" : PySem.Str), ("_law_expr" : PySem.Str), ("_law_class" : PySem.Str), ("_law_said" : PySem.Str), ("_law_lines_beyond" : PySem.Str), ("_law_heads_right" : PySem.Str), ("_law_rows_right" : PySem.Str), ("_law_deep_right" : PySem.Str), ("_law_long_right" : PySem.Str)]
theorem run_f (w : World) : HandSHeadRun.RunEq R (PySem.W.view R.prog [49]) hkS ob 6000 loose (w.withFollow "special-get-raises" false) := by
  intro os
  kernel_rfl
theorem run_t (w : World) : HandSHeadRun.RunEq R (PySem.W.view R.prog [49]) hkS ob 6000 loose (w.withFollow "special-get-raises" true) := by
  intro os
  kernel_rfl
theorem run (w : World) : HandSHeadRun.RunEq R (PySem.W.view R.prog [49]) hkS ob 6000 loose w := byRow2 "special-get-raises" (P := fun w => HandSHeadRun.RunEq R (PySem.W.view R.prog [49]) hkS ob 6000 loose w) run_f run_t w
theorem facts {P : Program} {w : World} {K : PySem.W.Frag} {h : Heap} {mg : PySem.Str → Option Value} {f : Addr} (X : K.In h) (G : h.Ns mainGlobals mg) (hfa : mg ("law" : PySem.Str) = some (.ref f)) (cx : He.SaysX fa fn tb [] ex w h K) :
    ∃ fd : FuncData, (∀ (s : Shared) (v : Value), BindsTo s fd ⟨[v], []⟩ [("script", v)]) ∧ ∀ base : Heap, K.In base → base.Ns mainGlobals mg → FnG P w K mg base 27 f fd ["script"] (spLaw K) := by
  have c := cx.t.d
  obtain ⟨mq, mo⟩ := He.ba cx.more
  obtain ⟨mo1, mo2⟩ := He.ba mo
  obtain ⟨qc, mq⟩ := He.ba mq
  obtain ⟨qx, mq⟩ := He.ba mq
  obtain ⟨qm, mq⟩ := He.ba mq
  obtain ⟨qb, mq⟩ := He.ba mq
  obtain ⟨q1, mq⟩ := He.ba mq
  obtain ⟨q2, mq⟩ := He.ba mq
  obtain ⟨q3, mq⟩ := He.ba mq
  obtain ⟨q4, mq⟩ := He.ba mq
  obtain ⟨q5, mq⟩ := He.ba mq
  obtain ⟨q6, q7⟩ := He.ba mq
  obtain ⟨mk, xf⟩ := mkB_ok qm
  have bse := baseB_ok qb
  have n1 := He.eqO_ok q1
  have n2 := He.eqO_ok q2
  have gBit := He.glo_ok X G (c.fact 44 (f := .glo "BitError") rfl)
  have gBadT := He.glo_ok X G (c.fact 45 (f := .glo "BadText") rfl)
  have mD := He.glo_ok X G (c.fact 56 (f := .glo "EXPR_PARTS") rfl)
  have mC := He.glo_ok X G (c.fact 57 (f := .glo "CLOSING_WORDS") rfl)
  have mgC := He.glo_ok X G (c.fact 58 (f := .glo "Text") rfl)
  have tv : ∀ {q : PySem.Str × List PySem.Str}, q ∈ tkv → ∃ p, PySem.W.nsIn K (He.ga K "EXPR_PARTS") q.1 = some (some (.ref p)) ∧ ∀ H, SqT K H p (q.2.map V.str) := fun {q} hq => entB_ok (List.all_eq_true.mp mo1 q hq)
  have B : Tab K w mg (He.ga K "EXPR_PARTS") (He.ga K "CLOSING_WORDS") := ⟨cx.t.tab 0 (t := (fun K => He.ga K "EXPR_PARTS", tkv.map (·.1))) rfl, mD, fun e => by
    cases e with
    | num n => exact tv (q := ("number", ["word"])) (by simp [tkv])
    | copy y => exact tv (q := ("copy", ["name"])) (by simp [tkv])
    | two o y z =>
      cases o with
      | add => exact tv (q := ("add", ["name", "name"])) (by simp [tkv])
      | less => exact tv (q := ("less", ["name", "name"])) (by simp [tkv])
      | and => exact tv (q := ("and", ["name", "name"])) (by simp [tkv])
      | or => exact tv (q := ("or", ["name", "name"])) (by simp [tkv])
      | unlike => exact tv (q := ("unlike", ["name", "name"])) (by simp [tkv])
      | same => exact tv (q := ("same", ["name", "name"])) (by simp [tkv])
      | below => exact tv (q := ("below", ["name", "name"])) (by simp [tkv])
    | up y k => exact tv (q := ("up", ["name", "shift"])) (by simp [tkv])
    | down y k => exact tv (q := ("down", ["name", "shift"])) (by simp [tkv])
    | pick c y z => exact tv (q := ("pick", ["name", "name", "name"])) (by simp [tkv]), mC, fun H => tupA_ok mo2 H⟩
  obtain ⟨fdIsName, FIsName⟩ := c.def_ 0 (d := mkD "is_name" 16) rfl
  obtain ⟨fdNumberIn, FNumberIn⟩ := c.def_ 1 (d := mkD "number_in" 17) rfl
  obtain ⟨fdRowsOf, FRowsOf⟩ := c.def_ 2 (d := mkD "rows_of" 18) rfl
  obtain ⟨fdProgramIn, FProgramIn⟩ := c.def_ 3 (d := mkD "program_in" 29) rfl
  obtain ⟨fdExprText, FExprText⟩ := c.def_ 4 (d := mkD "expr_text" 32) rfl
  obtain ⟨fdProgramText, FProgramText⟩ := c.def_ 5 (d := mkD "program_text" 33) rfl
  obtain ⟨fdShowRows, FShowRows⟩ := c.def_ 6 (d := mkD "_show_rows" 34) rfl
  obtain ⟨fdShowWithin, FShowWithin⟩ := c.def_ 7 (d := mkD "_show_within" 35) rfl
  obtain ⟨fdLBegin, FLBegin⟩ := c.def_ 8 (d := mkD "_law_begin" 37) rfl
  obtain ⟨fdLMixed, FLMixed⟩ := c.def_ 9 (d := mkD "_law_mixed" 38) rfl
  obtain ⟨fdLNext, FLNext⟩ := c.def_ 10 (d := mkD "_law_next" 39) rfl
  obtain ⟨fdLName, FLName⟩ := c.def_ 11 (d := mkD "_law_name" 40) rfl
  obtain ⟨fdLExpr, FLExpr⟩ := c.def_ 12 (d := mkD "_law_expr" 41) rfl
  obtain ⟨fdLClass, FLClass⟩ := c.def_ 13 (d := mkD "_law_class" 42) rfl
  obtain ⟨fdLSaid, FLSaid⟩ := c.def_ 14 (d := mkD "_law_said" 43) rfl
  obtain ⟨fdLLinesBeyond, FLLinesBeyond⟩ := c.def_ 15 (d := mkD "_law_lines_beyond" 44) rfl
  obtain ⟨fdLHeadsRight, FLHeadsRight⟩ := c.def_ 16 (d := mkD "_law_heads_right" 45) rfl
  obtain ⟨fdLRowsRight, FLRowsRight⟩ := c.def_ 17 (d := mkD "_law_rows_right" 46) rfl
  obtain ⟨fdLDeepRight, FLDeepRight⟩ := c.def_ 18 (d := mkD "_law_deep_right" 47) rfl
  obtain ⟨fdLLongRight, FLLongRight⟩ := c.def_ 19 (d := mkD "_law_long_right" 48) rfl
  obtain ⟨fdLaw, FLaw⟩ := c.def_ 20 (d := mkD "law" 49) rfl
  obtain ⟨fdMInit, FMInit⟩ := c.def_ 21 (d := mkM "__init__" "Text.__init__" 0) rfl
  obtain ⟨fdMReadProgram, FMReadProgram⟩ := c.def_ 22 (d := mkM "read_program" "Text.read_program" 1) rfl
  obtain ⟨fdMReadInputs, FMReadInputs⟩ := c.def_ 23 (d := mkM "read_inputs" "Text.read_inputs" 2) rfl
  obtain ⟨fdMReadRows, FMReadRows⟩ := c.def_ 24 (d := mkM "read_rows" "Text.read_rows" 3) rfl
  obtain ⟨fdMReadSet, FMReadSet⟩ := c.def_ 25 (d := mkM "read_set" "Text.read_set" 4) rfl
  obtain ⟨fdMReadIf, FMReadIf⟩ := c.def_ 26 (d := mkM "read_if" "Text.read_if" 5) rfl
  obtain ⟨fdMReadRound, FMReadRound⟩ := c.def_ 27 (d := mkM "read_round" "Text.read_round" 6) rfl
  obtain ⟨fdMTakeLineOf, FMTakeLineOf⟩ := c.def_ 28 (d := mkM "take_line_of" "Text.take_line_of" 7) rfl
  obtain ⟨fdMTakeClosing, FMTakeClosing⟩ := c.def_ 29 (d := mkM "take_closing" "Text.take_closing" 8) rfl
  obtain ⟨fdMNameBehind, FMNameBehind⟩ := c.def_ 30 (d := mkM "name_behind" "Text.name_behind" 9) rfl
  obtain ⟨fdMNumberBehind, FMNumberBehind⟩ := c.def_ 31 (d := mkM "number_behind" "Text.number_behind" 10) rfl
  obtain ⟨fdMNumberOf, FMNumberOf⟩ := c.def_ 32 (d := mkM "number_of" "Text.number_of" 11) rfl
  obtain ⟨fdMAreNames, FMAreNames⟩ := c.def_ 33 (d := mkM "are_names" "Text.are_names" 12) rfl
  obtain ⟨fdMRefuseFirstWrong, FMRefuseFirstWrong⟩ := c.def_ 34 (d := mkM "refuse_first_wrong" "Text.refuse_first_wrong" 13) rfl
  obtain ⟨fdMFits, FMFits⟩ := c.def_ 35 (d := mkM "fits" "Text.fits" 14) rfl
  obtain ⟨fdMRefuse, FMRefuse⟩ := c.def_ 36 (d := mkM "refuse" "Text.refuse" 15) rfl
  obtain ⟨fdBad, FBad⟩ := c.def_ 37 (d := ⟨("BadText", some "__init__"), "__init__", "BadText.__init__", defArgs sBad, defBody sBad, defScope sBad, [], []⟩) rfl
  have bBad : Binds K fdBad ["self", "line", "word"] [] := FunD.bindsN FBad fun _ _ _ _ _ _ us hl => match us, hl with | [_, _, _], _ => rfl
  have TX : TabX K w mg (He.ga K "EXPR_PARTS") (He.ga K "CLOSING_WORDS") := ⟨cx.t.tab 0 (t := (fun K => He.ga K "EXPR_PARTS", tkv.map (·.1))) rfl, mD, fun z hz => entB_ok (q := (z, kindsW z)) (List.all_eq_true.mp mo1 _ ((by decide +kernel : ∀ z ∈ exprWords, (z, kindsW z) ∈ tkv) z (of_decide_eq_true hz))), fun z hz => onlyB_ok q7 hz, mC, fun H => tupA_ok mo2 H⟩
  have cO : ∀ x ∈ oths, Oth K mg (cb K) x (He.ga K x) := fun x hx => by
    have n := of_decide_eq_true (List.all_eq_true.mp q6 x hx)
    simp only [oths, List.mem_cons, List.not_mem_nil, or_false] at hx
    rcases hx with rfl | rfl | rfl | rfl | rfl | rfl | rfl | rfl | rfl | rfl
    · exact ⟨He.glo_ok X G (c.fact 46 (f := .glo "BadAsked") rfl), n⟩
    · exact ⟨He.glo_ok X G (c.fact 47 (f := .glo "BadFacts") rfl), n⟩
    · exact ⟨He.glo_ok X G (c.fact 48 (f := .glo "BadInput") rfl), n⟩
    · exact ⟨He.glo_ok X G (c.fact 49 (f := .glo "BadLine") rfl), n⟩
    · exact ⟨He.glo_ok X G (c.fact 50 (f := .glo "BadPaper") rfl), n⟩
    · exact ⟨He.glo_ok X G (c.fact 51 (f := .glo "BadPlace") rfl), n⟩
    · exact ⟨He.glo_ok X G (c.fact 52 (f := .glo "BadProgram") rfl), n⟩
    · exact ⟨He.glo_ok X G (c.fact 53 (f := .glo "BadWidths") rfl), n⟩
    · exact ⟨He.glo_ok X G (c.fact 54 (f := .glo "TooMany") rfl), n⟩
    · exact ⟨He.glo_ok X G (c.fact 55 (f := .glo "Unsound") rfl), n⟩
  have TC : ClC K mg (cb K) (He.ga K) := ⟨cO, gBadT, of_decide_eq_true q3, of_decide_eq_true q4, xf, excB_ok qx qc, n1, n2⟩
  have e := hfa.symm.trans (He.glo_ok X G (c.fact 20 (f := .glo "law") rfl))
  cases e
  have gIsName := He.glo_ok X G (c.fact 0 (f := .glo "is_name") rfl)
  have gNumberIn := He.glo_ok X G (c.fact 1 (f := .glo "number_in") rfl)
  have gRowsOf := He.glo_ok X G (c.fact 2 (f := .glo "rows_of") rfl)
  have gProgramIn := He.glo_ok X G (c.fact 3 (f := .glo "program_in") rfl)
  have gExprText := He.glo_ok X G (c.fact 4 (f := .glo "expr_text") rfl)
  have gProgramText := He.glo_ok X G (c.fact 5 (f := .glo "program_text") rfl)
  have gShowRows := He.glo_ok X G (c.fact 6 (f := .glo "_show_rows") rfl)
  have gShowWithin := He.glo_ok X G (c.fact 7 (f := .glo "_show_within") rfl)
  have gLBegin := He.glo_ok X G (c.fact 8 (f := .glo "_law_begin") rfl)
  have gLMixed := He.glo_ok X G (c.fact 9 (f := .glo "_law_mixed") rfl)
  have gLNext := He.glo_ok X G (c.fact 10 (f := .glo "_law_next") rfl)
  have gLName := He.glo_ok X G (c.fact 11 (f := .glo "_law_name") rfl)
  have gLExpr := He.glo_ok X G (c.fact 12 (f := .glo "_law_expr") rfl)
  have gLClass := He.glo_ok X G (c.fact 13 (f := .glo "_law_class") rfl)
  have gLSaid := He.glo_ok X G (c.fact 14 (f := .glo "_law_said") rfl)
  have gLLinesBeyond := He.glo_ok X G (c.fact 15 (f := .glo "_law_lines_beyond") rfl)
  have gLHeadsRight := He.glo_ok X G (c.fact 16 (f := .glo "_law_heads_right") rfl)
  have gLRowsRight := He.glo_ok X G (c.fact 17 (f := .glo "_law_rows_right") rfl)
  have gLDeepRight := He.glo_ok X G (c.fact 18 (f := .glo "_law_deep_right") rfl)
  have gLLongRight := He.glo_ok X G (c.fact 19 (f := .glo "_law_long_right") rfl)
  have m_type := He.free_ok X G (c.fact 21 (f := .free "type") rfl)
  have m_str := He.free_ok X G (c.fact 22 (f := .free "str") rfl)
  have m_tuple := He.free_ok X G (c.fact 23 (f := .free "tuple") rfl)
  have m_len := He.free_ok X G (c.fact 24 (f := .free "len") rfl)
  have m_range := He.free_ok X G (c.fact 25 (f := .free "range") rfl)
  have m_list := He.free_ok X G (c.fact 26 (f := .free "list") rfl)
  have m_int := He.free_ok X G (c.fact 27 (f := .free "int") rfl)
  have m_isinstance := He.free_ok X G (c.fact 28 (f := .free "isinstance") rfl)
  have m_ValueError := He.free_ok X G (c.fact 29 (f := .free "ValueError") rfl)
  have m_bool := He.free_ok X G (c.fact 30 (f := .free "bool") rfl)
  have m_enumerate := He.free_ok X G (c.fact 31 (f := .free "enumerate") rfl)
  have m_min := He.free_ok X G (c.fact 32 (f := .free "min") rfl)
  have m_max := He.free_ok X G (c.fact 33 (f := .free "max") rfl)
  have m_sum := He.free_ok X G (c.fact 34 (f := .free "sum") rfl)
  obtain ⟨tLONGEST_NAME, iLONGEST_NAME⟩ := He.int_ok X G (c.fact 35 (f := .int "LONGEST_NAME" 8) rfl)
  obtain ⟨tMOST_FIGURES, iMOST_FIGURES⟩ := He.int_ok X G (c.fact 36 (f := .int "MOST_FIGURES" 4) rfl)
  obtain ⟨tWIDEST, iWIDEST⟩ := He.int_ok X G (c.fact 37 (f := .int "WIDEST" 12) rfl)
  obtain ⟨tMOST_INPUTS, iMOST_INPUTS⟩ := He.int_ok X G (c.fact 38 (f := .int "MOST_INPUTS" 4) rfl)
  obtain ⟨tMOST_ROWS, iMOST_ROWS⟩ := He.int_ok X G (c.fact 39 (f := .int "MOST_ROWS" 60) rfl)
  obtain ⟨tMOST_WITHIN, iMOST_WITHIN⟩ := He.int_ok X G (c.fact 40 (f := .int "MOST_WITHIN" 6) rfl)
  obtain ⟨tMOST_ROUNDS_WITHIN, iMOST_ROUNDS_WITHIN⟩ := He.int_ok X G (c.fact 41 (f := .int "MOST_ROUNDS_WITHIN" 3) rfl)
  obtain ⟨tMOST_GOINGS, iMOST_GOINGS⟩ := He.int_ok X G (c.fact 42 (f := .int "MOST_GOINGS" 12) rfl)
  obtain ⟨tMOST_SHIFT, iMOST_SHIFT⟩ := He.int_ok X G (c.fact 43 (f := .int "MOST_SHIFT" 11) rfl)
  have T : TxC K mg (He.ga K "Text") := ⟨He.cls_ok (c.fact 59 (f := .cls "Text") rfl), He.noat_ok (c.fact 61 (f := .noat "Text" "all_lines") rfl), He.noat_ok (c.fact 62 (f := .noat "Text" "lines") rfl), He.noat_ok (c.fact 63 (f := .noat "Text" "taken") rfl), He.noat_ok (c.fact 64 (f := .noat "Text" "many_rows") rfl), He.noat_ok (c.fact 65 (f := .noat "Text" "names") rfl), He.noat_ok (c.fact 66 (f := .noat "Text" "bounds") rfl), mgC⟩
  have M := He.mkr_ok (c.fact 60 (f := .mkr "Text") rfl)
  have meReadProgram := He.meth_ok (c.fact 67 (f := .meth "Text" "read_program") rfl)
  have meReadInputs := He.meth_ok (c.fact 68 (f := .meth "Text" "read_inputs") rfl)
  have meReadRows := He.meth_ok (c.fact 69 (f := .meth "Text" "read_rows") rfl)
  have meReadSet := He.meth_ok (c.fact 70 (f := .meth "Text" "read_set") rfl)
  have meReadIf := He.meth_ok (c.fact 71 (f := .meth "Text" "read_if") rfl)
  have meReadRound := He.meth_ok (c.fact 72 (f := .meth "Text" "read_round") rfl)
  have meTakeLineOf := He.meth_ok (c.fact 73 (f := .meth "Text" "take_line_of") rfl)
  have meTakeClosing := He.meth_ok (c.fact 74 (f := .meth "Text" "take_closing") rfl)
  have meNameBehind := He.meth_ok (c.fact 75 (f := .meth "Text" "name_behind") rfl)
  have meNumberBehind := He.meth_ok (c.fact 76 (f := .meth "Text" "number_behind") rfl)
  have meNumberOf := He.meth_ok (c.fact 77 (f := .meth "Text" "number_of") rfl)
  have meAreNames := He.meth_ok (c.fact 78 (f := .meth "Text" "are_names") rfl)
  have meRefuseFirstWrong := He.meth_ok (c.fact 79 (f := .meth "Text" "refuse_first_wrong") rfl)
  have meFits := He.meth_ok (c.fact 80 (f := .meth "Text" "fits") rfl)
  have meRefuse := He.meth_ok (c.fact 81 (f := .meth "Text" "refuse") rfl)
  have b := FunD.bindsA (ps := ["script"]) FLaw fun _ _ _ _ _ _ us hl => match us, hl with | [_], _ => rfl
  have bIsName : Binds K fdIsName ["thing"] [] := FunD.bindsN FIsName fun _ _ _ _ _ _ us hl => match us, hl with | [_], _ => rfl
  have bNumberIn : Binds K fdNumberIn ["word"] [] := FunD.bindsN FNumberIn fun _ _ _ _ _ _ us hl => match us, hl with | [_], _ => rfl
  have bRowsOf : Binds K fdRowsOf ["text"] [] := FunD.bindsN FRowsOf fun _ _ _ _ _ _ us hl => match us, hl with | [_], _ => rfl
  have bProgramIn : Binds K fdProgramIn ["text"] [] := FunD.bindsN FProgramIn fun _ _ _ _ _ _ us hl => match us, hl with | [_], _ => rfl
  have bExprText : Binds K fdExprText ["expr"] [] := FunD.bindsN FExprText fun _ _ _ _ _ _ us hl => match us, hl with | [_], _ => rfl
  have bProgramText : Binds K fdProgramText ["program"] [] := FunD.bindsN FProgramText fun _ _ _ _ _ _ us hl => match us, hl with | [_], _ => rfl
  have bShowRows : Binds K fdShowRows ["rows", "lines"] [] := FunD.bindsN FShowRows fun _ _ _ _ _ _ us hl => match us, hl with | [_, _], _ => rfl
  have bShowWithin : Binds K fdShowWithin ["row", "lines"] [] := FunD.bindsN FShowWithin fun _ _ _ _ _ _ us hl => match us, hl with | [_, _], _ => rfl
  have bLBegin : Binds K fdLBegin ["script"] [] := FunD.bindsN FLBegin fun _ _ _ _ _ _ us hl => match us, hl with | [_], _ => rfl
  have bLMixed : Binds K fdLMixed ["cell", "k"] [] := FunD.bindsN FLMixed fun _ _ _ _ _ _ us hl => match us, hl with | [_, _], _ => rfl
  have bLNext : Binds K fdLNext ["draw", "many"] [] := FunD.bindsN FLNext fun _ _ _ _ _ _ us hl => match us, hl with | [_, _], _ => rfl
  have bLName : Binds K fdLName ["draw"] [] := FunD.bindsN FLName fun _ _ _ _ _ _ us hl => match us, hl with | [_], _ => rfl
  have bLExpr : Binds K fdLExpr ["draw", "wide"] [] := FunD.bindsN FLExpr fun _ _ _ _ _ _ us hl => match us, hl with | [_, _], _ => rfl
  have bLClass : Binds K fdLClass ["error"] [] := FunD.bindsN FLClass fun _ _ _ _ _ _ us hl => match us, hl with | [_], _ => rfl
  have bLSaid : Binds K fdLSaid ["text"] [] := FunD.bindsN FLSaid fun _ _ _ _ _ _ us hl => match us, hl with | [_], _ => rfl
  have bLLinesBeyond : Binds K fdLLinesBeyond ["wide"] [] := FunD.bindsN FLLinesBeyond fun _ _ _ _ _ _ us hl => match us, hl with | [_], _ => rfl
  have bLHeadsRight : Binds K fdLHeadsRight [] [] := FunD.bindsN FLHeadsRight fun _ _ _ _ _ _ us hl => match us, hl with | [], _ => rfl
  have bLRowsRight : Binds K fdLRowsRight ["draw"] [] := FunD.bindsN FLRowsRight fun _ _ _ _ _ _ us hl => match us, hl with | [_], _ => rfl
  have bLDeepRight : Binds K fdLDeepRight ["draw"] [] := FunD.bindsN FLDeepRight fun _ _ _ _ _ _ us hl => match us, hl with | [_], _ => rfl
  have bLLongRight : Binds K fdLLongRight [] [] := FunD.bindsN FLLongRight fun _ _ _ _ _ _ us hl => match us, hl with | [], _ => rfl
  have bMInit : Binds K fdMInit ["self", "all_lines"] [] := FunD.bindsN FMInit fun _ _ _ _ _ _ us hl => match us, hl with | [_, _], _ => rfl
  have bMReadProgram : Binds K fdMReadProgram ["self"] [] := FunD.bindsN FMReadProgram fun _ _ _ _ _ _ us hl => match us, hl with | [_], _ => rfl
  have bMReadInputs : Binds K fdMReadInputs ["self"] [] := FunD.bindsN FMReadInputs fun _ _ _ _ _ _ us hl => match us, hl with | [_], _ => rfl
  have bMReadRows : Binds K fdMReadRows ["self", "deep", "rounds"] [] := FunD.bindsN FMReadRows fun _ _ _ _ _ _ us hl => match us, hl with | [_, _, _], _ => rfl
  have bMReadSet : Binds K fdMReadSet ["self", "words"] [] := FunD.bindsN FMReadSet fun _ _ _ _ _ _ us hl => match us, hl with | [_, _], _ => rfl
  have bMReadIf : Binds K fdMReadIf ["self", "words", "deep", "rounds"] [] := FunD.bindsN FMReadIf fun _ _ _ _ _ _ us hl => match us, hl with | [_, _, _, _], _ => rfl
  have bMReadRound : Binds K fdMReadRound ["self", "words", "deep", "rounds"] [] := FunD.bindsN FMReadRound fun _ _ _ _ _ _ us hl => match us, hl with | [_, _, _, _], _ => rfl
  have bMTakeLineOf : Binds K fdMTakeLineOf ["self", "word"] [] := FunD.bindsN FMTakeLineOf fun _ _ _ _ _ _ us hl => match us, hl with | [_, _], _ => rfl
  have bMTakeClosing : Binds K fdMTakeClosing ["self", "word"] [] := FunD.bindsN FMTakeClosing fun _ _ _ _ _ _ us hl => match us, hl with | [_, _], _ => rfl
  have bMNameBehind : Binds K fdMNameBehind ["self", "words"] [] := FunD.bindsN FMNameBehind fun _ _ _ _ _ _ us hl => match us, hl with | [_, _], _ => rfl
  have bMNumberBehind : Binds K fdMNumberBehind ["self", "words", "kind"] [] := FunD.bindsN FMNumberBehind fun _ _ _ _ _ _ us hl => match us, hl with | [_, _, _], _ => rfl
  have bMNumberOf : Binds K fdMNumberOf ["self", "word", "kind"] [] := FunD.bindsN FMNumberOf fun _ _ _ _ _ _ us hl => match us, hl with | [_, _, _], _ => rfl
  have bMAreNames : Binds K fdMAreNames ["self", "words"] [] := FunD.bindsN FMAreNames fun _ _ _ _ _ _ us hl => match us, hl with | [_, _], _ => rfl
  have bMRefuseFirstWrong : Binds K fdMRefuseFirstWrong ["self", "words", "kinds"] [] := FunD.bindsN FMRefuseFirstWrong fun _ _ _ _ _ _ us hl => match us, hl with | [_, _, _], _ => rfl
  have bMFits : Binds K fdMFits ["self", "word", "kind"] [] := FunD.bindsN FMFits fun _ _ _ _ _ _ us hl => match us, hl with | [_, _, _], _ => rfl
  have bMRefuse : Binds K fdMRefuse ["self", "word"] [] := FunD.bindsN FMRefuse fun _ _ _ _ _ _ us hl => match us, hl with | [_, _], _ => rfl
  refine ⟨fdLaw, fun s v => b s [v] rfl, fun base _ _ => ?_⟩
  have kIsName : FnOk P w K mg base CX0 2 _ fdIsName _ _ := ok_name FIsName m_type m_str m_len ⟨_, iLONGEST_NAME⟩
  have kNumberIn : FnOk P w K mg base CX0 3 _ fdNumberIn _ _ := ok_num FNumberIn m_len m_int ⟨_, iMOST_FIGURES⟩
  have kRowsOf : FnOk P w K mg base CX0 2 _ fdRowsOf _ _ := ok_rows FRowsOf
  have kNumO : FnOk P w K mg base CX0 4 _ fdMNumberOf _ _ := ok_numo FMNumberOf T kNumberIn bNumberIn FNumberIn.kp gNumberIn
  have kAll : FnOk P w K mg base CX0 3 _ fdMAreNames _ _ := ok_all FMAreNames T kIsName bIsName FIsName.kp gIsName
  have kFits : FnOk P w K mg base CX0 5 _ fdMFits _ _ := ok_fits FMFits T B TX.has meNumberOf kNumO bMNumberOf kIsName bIsName FIsName.kp gIsName
  have BT : BtC P w K mg base (cb K) _ fdBad := ⟨mk, gBadT, ok_bad FBad mk.t n1 n2 bse gBit, bBad⟩
  have kRefuse : FnOk P w K mg base (L2.CX P w) 3 _ fdMRefuse _ _ := ok_refuse FMRefuse T BT m_enumerate
  have kRfw : FnOk P w K mg base (L2.CX P w) 6 _ fdMRefuseFirstWrong _ _ := ok_rfw FMRefuseFirstWrong T meRefuse kRefuse bMRefuse meFits kFits bMFits m_len m_enumerate
  have kTakeX : FnOk P w K mg base (L2.CX P w) 4 _ fdMTakeLineOf _ _ := ok_takeX FMTakeLineOf T BT meRefuse kRefuse bMRefuse m_len
  have kCloseX : FnOk P w K mg base (L2.CX P w) 5 _ fdMTakeClosing _ _ := ok_closeX FMTakeClosing T meTakeLineOf kTakeX bMTakeLineOf meRefuse kRefuse bMRefuse m_len
  have kNameX : FnOk P w K mg base (L2.CX P w) 7 _ fdMNameBehind _ _ := ok_nameX FMNameBehind T meAreNames kAll bMAreNames meRefuseFirstWrong kRfw bMRefuseFirstWrong m_len
  have kNumX : FnOk P w K mg base (L2.CX P w) 7 _ fdMNumberBehind _ _ := ok_numX FMNumberBehind T meNumberOf kNumO bMNumberOf meRefuseFirstWrong kRfw bMRefuseFirstWrong m_len
  have kInX : FnOk P w K mg base (L2.CX P w) 7 _ fdMReadInputs _ _ := ok_inX FMReadInputs T meTakeLineOf kTakeX bMTakeLineOf meAreNames kAll bMAreNames meRefuseFirstWrong kRfw bMRefuseFirstWrong m_len m_min m_tuple iMOST_INPUTS
  have kSetX : FnOk P w K mg base (L2.CX P w) 7 _ fdMReadSet _ _ := ok_setX FMReadSet T TX meNumberOf kNumO bMNumberOf meAreNames kAll bMAreNames meRefuseFirstWrong kRfw bMRefuseFirstWrong m_len m_tuple
  have kRows0 : FnOk P w K mg base (L2.CX P w) (8 + 2 * 0) _ fdMReadRows _ (spRowsX (He.ga K "Text") (cb K) 0) := ok_rowsX0 FMReadRows
  have kIf0 := ok_ifX (n := 0) FMReadIf T meNameBehind kNameX bMNameBehind meTakeClosing kCloseX bMTakeClosing meReadRows kRows0 bMReadRows
  have kRo0 := ok_roundX (n := 0) FMReadRound T meNumberBehind kNumX bMNumberBehind meTakeClosing kCloseX bMTakeClosing meReadRows kRows0 bMReadRows
  have kRows1 : FnOk P w K mg base (L2.CX P w) (8 + 2 * 1) _ fdMReadRows _ (spRowsX (He.ga K "Text") (cb K) 1) := ok_rowsX1 (n := 0) FMReadRows T TX meReadSet kSetX bMReadSet meNameBehind kNameX bMNameBehind meRefuse kRefuse bMRefuse meReadIf kIf0 bMReadIf meReadRound kRo0 bMReadRound m_len m_tuple iMOST_WITHIN iMOST_ROWS iMOST_ROUNDS_WITHIN
  have kIf1 := ok_ifX (n := 1) FMReadIf T meNameBehind kNameX bMNameBehind meTakeClosing kCloseX bMTakeClosing meReadRows kRows1 bMReadRows
  have kRo1 := ok_roundX (n := 1) FMReadRound T meNumberBehind kNumX bMNumberBehind meTakeClosing kCloseX bMTakeClosing meReadRows kRows1 bMReadRows
  have kRows2 : FnOk P w K mg base (L2.CX P w) (8 + 2 * 2) _ fdMReadRows _ (spRowsX (He.ga K "Text") (cb K) 2) := ok_rowsX1 (n := 1) FMReadRows T TX meReadSet kSetX bMReadSet meNameBehind kNameX bMNameBehind meRefuse kRefuse bMRefuse meReadIf kIf1 bMReadIf meReadRound kRo1 bMReadRound m_len m_tuple iMOST_WITHIN iMOST_ROWS iMOST_ROUNDS_WITHIN
  have kIf2 := ok_ifX (n := 2) FMReadIf T meNameBehind kNameX bMNameBehind meTakeClosing kCloseX bMTakeClosing meReadRows kRows2 bMReadRows
  have kRo2 := ok_roundX (n := 2) FMReadRound T meNumberBehind kNumX bMNumberBehind meTakeClosing kCloseX bMTakeClosing meReadRows kRows2 bMReadRows
  have kRows3 : FnOk P w K mg base (L2.CX P w) (8 + 2 * 3) _ fdMReadRows _ (spRowsX (He.ga K "Text") (cb K) 3) := ok_rowsX1 (n := 2) FMReadRows T TX meReadSet kSetX bMReadSet meNameBehind kNameX bMNameBehind meRefuse kRefuse bMRefuse meReadIf kIf2 bMReadIf meReadRound kRo2 bMReadRound m_len m_tuple iMOST_WITHIN iMOST_ROWS iMOST_ROUNDS_WITHIN
  have kIf3 := ok_ifX (n := 3) FMReadIf T meNameBehind kNameX bMNameBehind meTakeClosing kCloseX bMTakeClosing meReadRows kRows3 bMReadRows
  have kRo3 := ok_roundX (n := 3) FMReadRound T meNumberBehind kNumX bMNumberBehind meTakeClosing kCloseX bMTakeClosing meReadRows kRows3 bMReadRows
  have kRows4 : FnOk P w K mg base (L2.CX P w) (8 + 2 * 4) _ fdMReadRows _ (spRowsX (He.ga K "Text") (cb K) 4) := ok_rowsX1 (n := 3) FMReadRows T TX meReadSet kSetX bMReadSet meNameBehind kNameX bMNameBehind meRefuse kRefuse bMRefuse meReadIf kIf3 bMReadIf meReadRound kRo3 bMReadRound m_len m_tuple iMOST_WITHIN iMOST_ROWS iMOST_ROUNDS_WITHIN
  have kIf4 := ok_ifX (n := 4) FMReadIf T meNameBehind kNameX bMNameBehind meTakeClosing kCloseX bMTakeClosing meReadRows kRows4 bMReadRows
  have kRo4 := ok_roundX (n := 4) FMReadRound T meNumberBehind kNumX bMNumberBehind meTakeClosing kCloseX bMTakeClosing meReadRows kRows4 bMReadRows
  have kRows5 : FnOk P w K mg base (L2.CX P w) (8 + 2 * 5) _ fdMReadRows _ (spRowsX (He.ga K "Text") (cb K) 5) := ok_rowsX1 (n := 4) FMReadRows T TX meReadSet kSetX bMReadSet meNameBehind kNameX bMNameBehind meRefuse kRefuse bMRefuse meReadIf kIf4 bMReadIf meReadRound kRo4 bMReadRound m_len m_tuple iMOST_WITHIN iMOST_ROWS iMOST_ROUNDS_WITHIN
  have kIf5 := ok_ifX (n := 5) FMReadIf T meNameBehind kNameX bMNameBehind meTakeClosing kCloseX bMTakeClosing meReadRows kRows5 bMReadRows
  have kRo5 := ok_roundX (n := 5) FMReadRound T meNumberBehind kNumX bMNumberBehind meTakeClosing kCloseX bMTakeClosing meReadRows kRows5 bMReadRows
  have kRows6 : FnOk P w K mg base (L2.CX P w) (8 + 2 * 6) _ fdMReadRows _ (spRowsX (He.ga K "Text") (cb K) 6) := ok_rowsX1 (n := 5) FMReadRows T TX meReadSet kSetX bMReadSet meNameBehind kNameX bMNameBehind meRefuse kRefuse bMRefuse meReadIf kIf5 bMReadIf meReadRound kRo5 bMReadRound m_len m_tuple iMOST_WITHIN iMOST_ROWS iMOST_ROUNDS_WITHIN
  have kIf6 := ok_ifX (n := 6) FMReadIf T meNameBehind kNameX bMNameBehind meTakeClosing kCloseX bMTakeClosing meReadRows kRows6 bMReadRows
  have kRo6 := ok_roundX (n := 6) FMReadRound T meNumberBehind kNumX bMNumberBehind meTakeClosing kCloseX bMTakeClosing meReadRows kRows6 bMReadRows
  have kRows7 : FnOk P w K mg base (L2.CX P w) (8 + 2 * 7) _ fdMReadRows _ (spRowsX (He.ga K "Text") (cb K) 7) := ok_rowsX1 (n := 6) FMReadRows T TX meReadSet kSetX bMReadSet meNameBehind kNameX bMNameBehind meRefuse kRefuse bMRefuse meReadIf kIf6 bMReadIf meReadRound kRo6 bMReadRound m_len m_tuple iMOST_WITHIN iMOST_ROWS iMOST_ROUNDS_WITHIN
  have kInit : FnOk P w K mg base CX0 1 _ fdMInit _ _ := ok_init FMInit T iWIDEST iMOST_GOINGS iMOST_SHIFT
  have kProgX : FnOk P w K mg base (L2.CX P w) 23 _ fdMReadProgram _ _ := ok_progX FMReadProgram T meTakeLineOf kTakeX bMTakeLineOf meNumberBehind kNumX bMNumberBehind meReadInputs kInX bMReadInputs meRefuse kRefuse bMRefuse meReadRows kRows7 bMReadRows m_len
  have kPinX : FnOk P w K mg base (L2.CX P w) 24 _ fdProgramIn _ _ := ok_pinX FProgramIn T M kInit bMInit kRowsOf bRowsOf FRowsOf.kp gRowsOf BT meReadProgram kProgX bMReadProgram m_type m_str
  have kClass : FnOk P w K mg base CX0 1 _ fdLClass _ _ := ok_class FLClass TC m_isinstance m_ValueError m_bool
  have kSaid : FnOk P w K mg base CX0 25 _ fdLSaid _ _ := ok_said FLSaid kPinX bProgramIn FProgramIn.kp gProgramIn kClass bLClass FLClass.kp gLClass gBit (of_decide_eq_true q5)
  have kExText : FnOk P w K mg base CX0 1 _ fdExprText _ _ := ok_extext FExprText m_str
  have kShow : FnOk P w K mg base CX0 (2 + 2 * 7) _ fdShowRows _ _ := ok_show_all FShowRows FShowWithin kExText bExprText FExprText.kp gExprText bShowRows FShowRows.kp gShowRows bShowWithin FShowWithin.kp gShowWithin 7
  have kPText : FnOk P w K mg base CX0 17 _ fdProgramText _ _ := ok_ptext FProgramText kShow bShowRows FShowRows.kp gShowRows
  have kLBegin : FnOk P w K mg base CX0 1 _ fdLBegin _ _ := ok_begin FLBegin
  have kLMixed : FnOk P w K mg base CX0 1 _ fdLMixed _ _ := ok_mixed FLMixed
  have kLNext : FnOk P w K mg base CX0 2 _ fdLNext _ _ := ok_next FLNext kLMixed bLMixed FLMixed.kp gLMixed m_len
  have kLName : FnOk P w K mg base CX0 3 _ fdLName _ _ := ok_lname FLName kLNext bLNext FLNext.kp gLNext m_range
  have kLExpr : FnOk P w K mg base CX0 4 _ fdLExpr _ _ := ok_lexpr FLExpr kLNext bLNext FLNext.kp gLNext kLName bLName FLName.kp gLName m_range m_tuple
  have kBeyond : FnOk P w K mg base CX0 1 _ fdLLinesBeyond _ _ := ok_beyond FLLinesBeyond m_str
  have kHeads : FnOk P w K mg base CX0 26 _ fdLHeadsRight _ _ := ok_heads FLHeadsRight kSaid bLSaid FLSaid.kp gLSaid m_isinstance m_tuple
  have kLong : FnOk P w K mg base CX0 26 _ fdLLongRight _ _ := ok_long FLLongRight kSaid bLSaid FLSaid.kp gLSaid
  have kRowsR : FnOk P w K mg base CX0 26 _ fdLRowsRight _ _ := ok_rowsR FLRowsRight ⟨_, _, kLNext, bLNext, FLNext.kp, gLNext⟩ ⟨_, _, kLName, bLName, FLName.kp, gLName⟩ ⟨_, _, kLExpr, bLExpr, FLExpr.kp, gLExpr⟩ ⟨_, _, kBeyond, bLLinesBeyond, FLLinesBeyond.kp, gLLinesBeyond⟩ ⟨_, _, kSaid, bLSaid, FLSaid.kp, gLSaid⟩ ⟨_, _, kPText, bProgramText, FProgramText.kp, gProgramText⟩ m_range m_str m_len m_isinstance m_tuple
  have kDeep : FnOk P w K mg base CX0 26 _ fdLDeepRight _ _ := ok_deep FLDeepRight ⟨_, _, kLNext, bLNext, FLNext.kp, gLNext⟩ ⟨_, _, kSaid, bLSaid, FLSaid.kp, gLSaid⟩ m_range m_int m_len m_sum m_isinstance m_tuple
  have kLaw := ok_law FLaw ⟨_, _, kLBegin, bLBegin, FLBegin.kp, gLBegin⟩ ⟨_, _, kHeads, bLHeadsRight, FLHeadsRight.kp, gLHeadsRight⟩ ⟨_, _, kLong, bLLongRight, FLLongRight.kp, gLLongRight⟩ ⟨_, _, kRowsR, bLRowsRight, FLRowsRight.kp, gLRowsRight⟩ ⟨_, _, kDeep, bLDeepRight, FLDeepRight.kp, gLDeepRight⟩ m_range
  exact ⟨kLaw.len, fun A outer s H ar us vs Q E _ hr e0 bn rel sp => kLaw.run A outer s H ar us vs Q E hr e0 bn rel sp⟩
end K9
open PySem PySem.W PySem.Calls PyProof.Rows
theorem PySem.Challenge.cw_bitneed_k09_bounds_of_texts_holds : PySem.Challenge.rw_bitneed_k09_bounds_of_texts.Holds := by
  w_on; o_law
  refine HandSHeadRun.head_any (r := OpenLaw.row PySem.Challenge.rw_bitneed_k09_bounds_of_texts) (q := view (OpenLaw.row PySem.Challenge.rw_bitneed_k09_bounds_of_texts).prog [49]) (H := K9.hkS) (ob := K9.ob) (M := 6000) (loose := K9.loose) (d := HandSHeadRun.topDef (OpenLaw.row PySem.Challenge.rw_bitneed_k09_bounds_of_texts).prog 49) (kwd := []) K9.ob_eq
    (by kernel_rfl) (fun s => by kernel_rfl) K9.run (by kernel_rfl) (by kernel_rfl) (by kernel_rfl) (by rfl) (by first | assumption | decide +kernel) (by decide +kernel) ⟨rfl, rfl, rfl, rfl, rfl, by decide +kernel⟩ ?hw ?hc
  case hw => w_witness2
  case hc =>
    refine K9.walkG (l := PySem.Challenge.rw_bitneed_k09_bounds_of_texts) (n := 63) (k := 27) (x := "script") rfl (by decide) (by kernel_rfl) ⟨rfl, by decide, by decide⟩ ?F
    intro w mg f h Y G hmg0
    obtain ⟨K, KX, c⟩ := Y
    have hmg : mg ("law" : PySem.Str) = some (.ref f) := by
      have e : (HandSHeadRun.topDef (OpenLaw.row PySem.Challenge.rw_bitneed_k09_bounds_of_texts).prog 49).name = ("law" : PySem.Str) := by kernel_rfl
      rw [← e]
      exact hmg0
    obtain ⟨fd, hb, hF⟩ := K9.facts (P := (PySem.Challenge.rw_bitneed_k09_bounds_of_texts).prog) (w := w) KX G hmg c
    exact ⟨K, fd, K9.spLaw K, KX, hb, hF, fun H a ns hl hS => ⟨a, ns, rfl, hS, hl, fun _ => rfl⟩⟩

