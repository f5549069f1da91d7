import PyProof.Rows.All
import Wide.All
import OpenK.AllK
import Wide.FinOn
import HandS.ForMost
import HandS.ForExc
import HandS.Evl
import HandS.Conv
import HandS.WideBits
import HandS.Wide
import HandS.Flow
import HandS.Property
import HandS.Records
import HandS.SortInts
import HandS.Strs
import HandS.IsInst
import HandS.TupAny
import HandS.Zip
import HandS.SetFor
import HandS.WordsExc
import HandS.Codes
import HandS.BoundList
import HandS.Style
import KE.GoesEnum
import HandS.Iter
import HandS.Text
import HandS.Gcd
import HandS.SortKw
import HandS.Deep
import HandS.ClsMeth
import HandS.FStr
import HandS.Keys
import HandS.Defaults
import HandS.HeadWalk
import HandS.HeadHook4
import HandS.Head0
import HandS.Head1
import HandS.Head2
import HandS.HeadEnd
import PySem.Challenge.RW_hoursums_k08_whole_sums_of_many_summands
set_option Elab.async false
set_option maxRecDepth 100000
set_option linter.all false
section -- Sx
set_option maxRecDepth 100000
set_option maxHeartbeats 4000000
namespace Sx
open PySem PySem.Spec L2
open PyProof.Rows hiding St

/-! ### running a piece of syntax from where one stands -/
def RE (X : Cx) (e : Expr) : TE := fun σ H Q => ∀ (pins : List (Addr × Obj)) (s : Shared), Inv X pins σ H s → wpAny (model X.prog X.w) X.A (eval e X.env) (EP X pins σ Q) X.xe s
def RT (X : Cx) (e : Expr) : TT := fun σ H Q => ∀ (pins : List (Addr × Obj)) (s : Shared), Inv X pins σ H s → wpAny (model X.prog X.w) X.A (isTrue e X.env (eval e X.env)) (TP X pins σ Q) X.xe s
def RW (X : Cx) (e : Expr) : TT := fun σ H Q => ∀ (whole : Sem Value) (pins : List (Addr × Obj)) (s : Shared), Inv X pins σ H s → wpAny (model X.prog X.w) X.A (isTrue e X.env whole) (TP X pins σ Q) X.xe s
def RA (X : Cx) (es : List Expr) : TA := fun σ H Q => ∀ (pos : Pos) (pins : List (Addr × Obj)) (s : Shared), Inv X pins σ H s → wpAny (model X.prog X.w) X.A (spliced (backTo pos (starEach es X.env))) (AP X pins σ Q) X.xe s
def RK (X : Cx) (kws : List Keyword) : TA := fun σ H Q => ∀ (pos : Pos) (pins : List (Addr × Obj)) (s : Shared), Inv X pins σ H s → wpAny (model X.prog X.w) X.A (evalAll ((backToKw pos (keywordEach kws X.env)).map (·.2))) (AP X pins σ Q) X.xe s
def RS (X : Cx) (st : Stmt) : TS := fun D σ H => ∀ (pins : List (Addr × Obj)) (s : Shared), Inv X pins σ H s → wpAny (model X.prog X.w) X.A (exec st X.env) (SP X pins D) X.xe s
def RSs (X : Cx) (st : List Stmt) : TS := fun D σ H => ∀ (pins : List (Addr × Obj)) (s : Shared), Inv X pins σ H s → wpAny (model X.prog X.w) X.A (execs st X.env) (SP X pins D) X.xe s
def RG (X : Cx) (tg : Expr) : TG := fun v σ H Q => ∀ (pins : List (Addr × Obj)) (s : Shared) (u : Value), Inv X pins σ H s → RelV v u →
  wpAny (model X.prog X.w) X.A (assign tg X.env u) (fun _ s' => ∃ σ' H', Inv X pins σ' H' s' ∧ Q σ' H') X.xe s
def RGs (X : Cx) (ts : List Expr) : TGs := fun vs σ H Q => ∀ (pins : List (Addr × Obj)) (s : Shared) (us : List Value), Inv X pins σ H s → Vals vs us →
  wpAny (model X.prog X.w) X.A (assignInOrder ((assignEach ts X.env).map (·.2)) us) (fun _ s' => ∃ σ' H', Inv X pins σ' H' s' ∧ Q σ' H') X.xe s
/-- by values -/
def RO (X : Cx) (f : Value → Value → Sem Value) : R2 := fun x y H Q => ∀ (pins : List (Addr × Obj)) (s : Shared) (σ : St) (v u : Value), Inv X pins σ H s → RelV x v → RelV y u → wpAny (model X.prog X.w) X.A (f v u) (EP X pins σ Q) X.xe s
def RU (X : Cx) (f : Value → Sem Value) : V → Hp → VK → Prop := fun x H Q => ∀ (pins : List (Addr × Obj)) (s : Shared) (σ : St) (v : Value), Inv X pins σ H s → RelV x v → wpAny (model X.prog X.w) X.A (f v) (EP X pins σ Q) X.xe s
def RTru (X : Cx) : V → Hp → (Bool → Hp → Prop) → Prop := fun x H Q => ∀ (pins : List (Addr × Obj)) (s : Shared) (σ : St) (v : Value), Inv X pins σ H s → RelV x v → wpAny (model X.prog X.w) X.A (truthy v) (TP X pins σ Q) X.xe s
def RC (X : Cx) (f : Value) : List V → Hp → VK → Prop := fun xs H Q => ∀ (pins : List (Addr × Obj)) (s : Shared) (σ : St) (us : List Value), Inv X pins σ H s → Vals xs us → wpAny (model X.prog X.w) X.A (call f us) (EP X pins σ Q) X.xe s
def RM (X : Cx) (id : String) : V → List V → Hp → VK → Prop := fun x xs H Q => ∀ (pins : List (Addr × Obj)) (s : Shared) (σ : St) (v : Value) (us : List Value), Inv X pins σ H s → RelV x v → Vals xs us → wpAny (model X.prog X.w) X.A (call (.builtin id) (v :: us)) (EP X pins σ Q) X.xe s
def RIx (X : Cx) : R2 := fun x y H Q => ∀ (value slice : Expr) (pins : List (Addr × Obj)) (s : Shared) (σ : St) (v u : Value), Inv X pins σ H s → RelV x v → RelV y u → subscripted slice false v u = operate [v, u] (getItem v u) → wpAny (model X.prog X.w) X.A (subscriptTail value slice v u) (EP X pins σ Q) X.xe s
def RSl (X : Cx) : V → Option Int → Option Int → Hp → VK → Prop := fun x lo hi H Q => ∀ (pins : List (Addr × Obj)) (s : Shared) (σ : St) (v vl vu : Value) (sl : Addr), Inv X pins σ H s → RelV x v → s.heap.IsSliceOf sl vl vu .none → IsPart vl lo → IsPart vu hi →
    ∃ T id, typeLookup (.type T) "__getitem__" = pure (some (.builtin id)) ∧ s.TypeIs v T ∧ wpAny (model X.prog X.w) X.A (getItem v (.ref sl)) (EP X pins σ Q) X.xe s
def RIp (X : Cx) (op : Operator) : TIp := fun x y H Q => ∀ (pins : List (Addr × Obj)) (s : Shared) (σ : St) (v u : Value), Inv X pins σ H s → RelV x v → RelV y u → wpAny (model X.prog X.w) X.A (inplaceOp op v u) (EP X pins σ Q) X.xe s
def RSet (X : Cx) : TSet := fun o i v H Q => ∀ (pins : List (Addr × Obj)) (s : Shared) (σ : St) (ov iv u : Value), Inv X pins σ H s → RelV o ov → RelV i iv → RelV v u → wpAny (model X.prog X.w) X.A (setItem ov iv u) (fun _ s' => ∃ H', Inv X pins σ H' s' ∧ Q H') X.xe s

section
variable {X : Cx} {e a b c o : Expr} {es : List Expr} {st : Stmt} {sts rest : List Stmt} {σ : St} {H : Hp} {Q : VK} {QB : Bool → Hp → Prop} {QA : List V → Hp → Prop} {D : Ends} {pos pos' p apos : Pos} {x : Str} {v w : V} {kws : List Keyword}
theorem re (e : Expr) : PE X e (RE X e) := ⟨fun pins s σ H Q I h => h pins s I⟩
theorem rt (e : Expr) : PT X e (RT X e) := ⟨fun pins s σ H Q I h => h pins s I⟩
theorem rw' (e : Expr) : PW X e (RW X e) := ⟨fun wh pins s σ H Q I h => h wh pins s I⟩
theorem ra (es : List Expr) : PA X es (RA X es) := ⟨fun pos pins s σ H Q I h => h pos pins s I⟩
theorem rk (kws : List Keyword) : PK X kws (RK X kws) := ⟨fun pos pins s σ H Q I h => h pos pins s I⟩
theorem rs (st : Stmt) : PS X st (RS X st) := ⟨fun pins s σ H D I h => h pins s I⟩
theorem rss (sts : List Stmt) : PSs X sts (RSs X sts) := ⟨fun pins s σ H D I h => h pins s I⟩
theorem rg (tg : Expr) : PG X tg (RG X tg) := ⟨fun pins s σ H v u Q I r h => h pins s u I r⟩
theorem rgs (ts : List Expr) : PGs X ts (RGs X ts) := ⟨fun pins s σ H vs us Q I r h => h pins s us I r⟩
theorem ro (f : Value → Value → Sem Value) : OpR X f (RO X f) := fun pins s σ H x y v u Q I r1 r2 h => h pins s σ v u I r1 r2
theorem ru (f : Value → Sem Value) : UnR X f (RU X f) := fun pins s σ H x v Q I r1 h => h pins s σ v I r1
theorem rtru : TruR X (RTru X) := fun pins s σ H x v Q I r1 h => h pins s σ v I r1
theorem rc (f : Value) : CallR X f (RC X f) := fun pins s σ H xs us Q I r h => h pins s σ us I r
theorem rm (id : String) : MtR X id (RM X id) := fun pins s σ H x xs v us Q I r1 r2 h => h pins s σ v us I r1 r2
theorem rix : IxR X (RIx X) := fun value slice pins s σ H x y v u Q I r1 r2 h hs => h value slice pins s σ v u I r1 r2 hs
theorem rset : PSet X (RSet X) := fun pins s σ H o i v ov iv u Q I r1 r2 r3 h => h pins s σ ov iv u I r1 r2 r3
theorem re_of {t : TE} (h : PE X e t) (k : t σ H Q) : RE X e σ H Q := fun pins s I => h.run pins s σ H Q I k
theorem rt_of {t : TT} (h : PT X e t) (k : t σ H QB) : RT X e σ H QB := fun pins s I => h.run pins s σ H QB I k
theorem rw_of {t : TT} (h : PW X e t) (k : t σ H QB) : RW X e σ H QB := fun wh pins s I => h.run wh pins s σ H QB I k
theorem ra_of {t : TA} (h : PA X es t) (k : t σ H QA) : RA X es σ H QA := fun pos pins s I => h.run pos pins s σ H QA I k
theorem rk_of {t : TA} (h : PK X kws t) (k : t σ H QA) : RK X kws σ H QA := fun pos pins s I => h.run pos pins s σ H QA I k
theorem rs_of {t : TS} (h : PS X st t) (k : t D σ H) : RS X st D σ H := fun pins s I => h.run pins s σ H D I k
theorem rss_of {t : TS} (h : PSs X sts t) (k : t D σ H) : RSs X sts D σ H := fun pins s I => h.run pins s σ H D I k
theorem rg_of {t : TG} {Qg : St → Hp → Prop} (h : PG X e t) (k : t v σ H Qg) : RG X e v σ H Qg := fun pins s u I r => h.run pins s σ H v u Qg I r k
theorem rgs_of {t : TGs} {vs : List V} {Qg : St → Hp → Prop} (h : PGs X es t) (k : t vs σ H Qg) : RGs X es vs σ H Qg := fun pins s us I r => h.run pins s σ H vs us Qg I r k
theorem ro_of {f : Value → Value → Sem Value} {r : R2} (h : OpR X f r) (k : r v w H Q) : RO X f v w H Q := fun pins s σ a b I r1 r2 => h pins s σ H v w a b Q I r1 r2 k
theorem ru_of {f : Value → Sem Value} {r : V → Hp → VK → Prop} (h : UnR X f r) (k : r v H Q) : RU X f v H Q := fun pins s σ a I r1 => h pins s σ H v a Q I r1 k
theorem rtru_of {r : V → Hp → (Bool → Hp → Prop) → Prop} (h : TruR X r) (k : r v H QB) : RTru X v H QB := fun pins s σ a I r1 => h pins s σ H v a QB I r1 k
theorem rc_of {f : Value} {vs : List V} {r : List V → Hp → VK → Prop} (h : CallR X f r) (k : r vs H Q) : RC X f vs H Q := fun pins s σ us I r1 => h pins s σ H vs us Q I r1 k
theorem rm_of {id : String} {vs : List V} {r : V → List V → Hp → VK → Prop} (h : MtR X id r) (k : r v vs H Q) : RM X id v vs H Q := fun pins s σ a us I r1 r2 => h pins s σ H v vs a us Q I r1 r2 k
theorem rix_of {r : R2} (h : IxR X r) (k : r v w H Q) : RIx X v w H Q := fun value slice pins s σ a b I r1 r2 hs => h value slice pins s σ H v w a b Q I r1 r2 k hs
theorem rset_of {z : V} {t : TSet} {Qh : Hp → Prop} (h : PSet X t) (k : t v w z H Qh) : RSet X v w z H Qh := fun pins s σ ov iv u I r1 r2 r3 => h pins s σ H v w z ov iv u Qh I r1 r2 r3 k

/-! ### expressions -/
theorem e_int {i : Int} {j} (q : Q (.int i) H) : RE X (.Constant (.int i) j pos) σ H Q := re_of pe_int q
theorem e_bl {k : Bool} {j} (q : Q (.bl k) H) : RE X (.Constant (.bool k) j pos) σ H Q := re_of pe_bl q
theorem e_non {j} (q : Q .non H) : RE X (.Constant .none j pos) σ H Q := re_of pe_non q
theorem e_str {y : Str} {j} (q : Q (.str y) H) : RE X (.Constant (.str y) j pos) σ H Q := re_of pe_str q
theorem e_bin {op : Operator} (q : RE X a σ H fun x H1 => RE X b σ H1 fun y H2 => RO X (binaryOp op) x y H2 Q) : RE X (.BinOp a op b pos) σ H Q := re_of (pe_op (ro _) (re a) (re b)) q
theorem e_un {op : UnaryOp} (q : RE X a σ H fun x H1 => RU X (unaryOp op) x H1 Q) : RE X (.UnaryOp op a pos) σ H Q := re_of (pe_un (ru _) (re a)) q
theorem e_not (q : RE X a σ H fun x H1 => ∃ c, x = .bl c ∧ Q (.bl (!c)) H1) : RE X (.UnaryOp .Not a pos) σ H Q := re_of (pe_not (re a)) q
theorem e_cmp {op : CmpOp} (hm : behindInMarks op b = false) (q : RE X a σ H fun x H1 => RE X b σ H1 fun y H2 => RO X (compareOp op) x y H2 Q) : RE X (.Compare a [op] [b] pos) σ H Q := re_of (pe_cmpR (ro _) (re a) (re b) hm) q
theorem e_one {op} (q : RE X a σ H Q) : RE X (.BoolOp op [a] pos) σ H Q := re_of (pe_one (re a)) q
theorem e_and (q : RE X a σ H fun x H1 => ∃ k, x = .bl k ∧ if k = true then RE X (.BoolOp .And (b :: es) pos) σ H1 Q else Q (.bl false) H1) : RE X (.BoolOp .And (a :: b :: es) pos) σ H Q := re_of (pe_and (re a) (re _)) q
theorem e_or (q : RE X a σ H fun x H1 => ∃ k, x = .bl k ∧ if k = true then Q (.bl true) H1 else RE X (.BoolOp .Or (b :: es) pos) σ H1 Q) : RE X (.BoolOp .Or (a :: b :: es) pos) σ H Q := re_of (pe_or (re a) (re _)) q
theorem e_if (q : RT X c σ H fun k H1 => if k = true then RE X a σ H1 Q else RE X b σ H1 Q) : RE X (.IfExp c a b pos) σ H Q := re_of (pe_ifExp (rt c) (re a) (re b)) q
theorem e_tup {k} (q : RA X es σ H fun xs H1 => xs.length ≤ sizeLine ∧ ∀ p, H1 p = none → Q (.ref p) (upd H1 p (.tup xs))) : RE X (.Tuple es k pos) σ H Q := re_of (pe_tup (ra es)) q
theorem e_lst (q : RA X es σ H fun xs H1 => xs.length ≤ sizeLine ∧ ∀ p, H1 p = none → Q (.ref p) (upd H1 p (.lst xs))) : RE X (.List es pos) σ H Q := re_of (pe_lst (ra es)) q
theorem e_ix (hs : PlainIx b) (q : RE X a σ H fun x H1 => RE X b σ H1 fun y H2 => RIx X x y H2 Q) : RE X (.Subscript a b pos) σ H Q := re_of (pe_ix rix (re a) (re b) hs) q
theorem a_nil (q : QA [] H) : RA X [] σ H QA := ra_of pa_nil q
theorem a_cons (hs : starEach (e :: es) X.env = (false, eval e X.env) :: starEach es X.env) (q : RE X e σ H fun x H1 => RA X es σ H1 fun xs H2 => QA (x :: xs) H2) : RA X (e :: es) σ H QA := ra_of (pa_cons (re e) (ra es) hs) q
theorem e_fld {f : Str} (hb : attributeBase e f X.env (eval e X.env) = eval e X.env) (q : RE X e σ H fun x H1 => ∃ a C dx fs v, x = .ref a ∧ H1 a = some (.ins C dx fs) ∧ Cls X.K C ∧ NoAttr X.K C f ∧ fs.lookup f = some v ∧ Q v H1) : RE X (.Attribute e f pos) σ H Q := re_of (pe_fld (re e) hb) q
/-- a builtin by its name -/
theorem e_callB {id : String} (hg : Gl X x) (hm : X.mg x = none) (hv : bootBuiltins x = some (.builtin id)) (hn : x ≠ "__name__") (hd : (x == ("__debug__" : Str)) = false) (hs : starEach (e :: es) X.env = (false, eval e X.env) :: starEach es X.env) (hpl : (backTo pos (starEach es X.env)).any (·.1) = false)
    (q : RA X (e :: es) σ H fun vs H1 => RC X (.builtin id) vs H1 Q) : RE X (.Call (.Name x p) (e :: es) [] pos) σ H Q := re_of (pe_callB (rc _) hg hm hv (ra _) hn hd hs hpl) q
theorem e_callTy {T : String} (hg : Gl X x) (hm : X.mg x = none) (hv : bootBuiltins x = some (.type T)) (hn : x ≠ "__name__") (hd : (x == ("__debug__" : Str)) = false) (hs : starEach (e :: es) X.env = (false, eval e X.env) :: starEach es X.env) (hpl : (backTo pos (starEach es X.env)).any (·.1) = false)
    (q : RA X (e :: es) σ H fun vs H1 => RC X (.type T) vs H1 Q) : RE X (.Call (.Name x p) (e :: es) [] pos) σ H Q := re_of (pe_callTy (rc _) hg hm hv (ra _) hn hd hs hpl) q

theorem rsl : SlR X (RSl X) := fun pins s σ H x v vl vu lo hi sl Q I r1 h1 h2 h3 h => h pins s σ v vl vu sl I r1 h1 h2 h3
theorem rsl_of {lo hi : Option Int} {r : V → Option Int → Option Int → Hp → VK → Prop} (h : SlR X r) (k : r v lo hi H Q) : RSl X v lo hi H Q := fun pins s σ a vl vu sl I r1 h1 h2 h3 => h pins s σ H v a vl vu lo hi sl Q I r1 h1 h2 h3 k
theorem rip (op : Operator) : PIp X op (RIp X op) := fun pins s σ H x y v u Q I r1 r2 h => h pins s σ v u I r1 r2
theorem rip_of {op : Operator} {r : TIp} (h : PIp X op r) (k : r v w H Q) : RIp X op v w H Q := fun pins s σ a b I r1 r2 => h pins s σ H v w a b Q I r1 r2 k
/-- the parts of a slice -/
def tO (X : Cx) : Option Expr → TO
  | none => tNoPart
  | some e => tPart (RE X e)
theorem ro_part (lo : Option Expr) : PO X lo (tO X lo) := by
  cases lo with
  | none => exact po_none
  | some e => exact po_some (re e)
theorem e_sl {lo hi : Option Expr} {p2 : Pos} (q : RE X e σ H fun x H1 => tO X lo σ H1 fun l H2 => tO X hi σ H2 fun u H3 => RSl X x l u H3 Q) : RE X (.Subscript e (.Slice lo hi none p2) pos) σ H Q := re_of (pe_slice rsl (re e) (ro_part lo) (ro_part hi)) q
theorem p_none {k : Option Int → Hp → Prop} (q : k none H) : tO X none σ H k := q
theorem p_some {k : Option Int → Hp → Prop} (q : RE X e σ H fun x H1 => ∃ i, x = .int i ∧ k (some i) H1) : tO X (some e) σ H k := q
/-! ### tests -/
theorem t_val (he : ∀ whole, isTrue e X.env whole = (do let v ← whole; standAt e.pos; holding [v] (truthy v))) (q : RE X e σ H fun x H1 => RTru X x H1 QB) : RT X e σ H QB := rt_of (pt_truthR (re e) rtru he) q
theorem t_cmp {op : CmpOp} (hm : behindInMarks op b = false) (q : RE X a σ H fun x H1 => RE X b σ H1 fun y H2 => RO X (compareOp op) x y H2 fun z H3 => ∃ k, z = .bl k ∧ QB k H3) : RT X (.Compare a [op] [b] pos) σ H QB := rt_of (pt_cmpR (ro _) (re a) (re b) hm) q
theorem t_not (q : RT X a σ H fun k H1 => QB (!k) H1) : RT X (.UnaryOp .Not a pos) σ H QB := rt_of (pt_not (rt a)) q
theorem t_pw (q : RW X e σ H QB) : RT X e σ H QB := rt_of (PW.pt (rw' e)) q
theorem w_and1 (q : RT X a σ H QB) : RW X (.BoolOp .And [a] pos) σ H QB := rw_of (pw_and1 (rt a)) q
theorem w_or1 (q : RT X a σ H QB) : RW X (.BoolOp .Or [a] pos) σ H QB := rw_of (pw_or1 (rt a)) q
theorem w_and (q : RT X a σ H fun k H1 => if k = true then RW X (.BoolOp .And (b :: es) pos) σ H1 QB else QB false H1) : RW X (.BoolOp .And (a :: b :: es) pos) σ H QB := rw_of (pw_and (rt a) (rw' _)) q
theorem w_or (q : RT X a σ H fun k H1 => if k = true then QB true H1 else RW X (.BoolOp .Or (b :: es) pos) σ H1 QB) : RW X (.BoolOp .Or (a :: b :: es) pos) σ H QB := rw_of (pw_or (rt a) (rw' _)) q

/-! ### statements -/
variable {nx bk ct : St → Hp → Prop} {rt' : VK}
theorem ss_nil (q : nx σ H) : RSs X [] ⟨nx, rt', bk, ct⟩ σ H := rss_of pss_nil q
theorem ss_cons (q : RS X st ⟨RSs X rest ⟨nx, rt', bk, ct⟩, rt', bk, ct⟩ σ H) : RSs X (st :: rest) ⟨nx, rt', bk, ct⟩ σ H := rss_of (pss_cons (rs st) (rss rest)) q
theorem s_pass (q : nx σ H) : RS X (.Pass pos) ⟨nx, rt', bk, ct⟩ σ H := rs_of ps_pass q
theorem s_break (q : bk σ H) : RS X (.Break pos) ⟨nx, rt', bk, ct⟩ σ H := rs_of ps_break q
theorem s_continue (q : ct σ H) : RS X (.Continue pos) ⟨nx, rt', bk, ct⟩ σ H := rs_of ps_continue q
theorem s_expr (hs : swapsWith e none pos.line X.env = pure false) (q : RE X e σ H fun _ H1 => nx σ H1) : RS X (.Expr e pos) ⟨nx, rt', bk, ct⟩ σ H := rs_of (ps_expr (re e) hs) q
theorem s_ret (q : RE X e σ H rt') : RS X (.Return (some e) pos) ⟨nx, rt', bk, ct⟩ σ H := rs_of (ps_ret (re e)) q
theorem s_retN (q : rt' .non H) : RS X (.Return none pos) ⟨nx, rt', bk, ct⟩ σ H := rs_of ps_retN q
theorem s_if {A B : List Stmt} (q : RT X c σ H fun k H1 => if k = true then RSs X A ⟨nx, rt', bk, ct⟩ σ H1 else RSs X B ⟨nx, rt', bk, ct⟩ σ H1) : RS X (.If c A B pos) ⟨nx, rt', bk, ct⟩ σ H := rs_of (ps_if (rt c) (rss A) (rss B)) q
/-- the slot of a name -/
def setN : List Str → St → Str → V → St
  | n :: ns, o :: os, x, v => if x = n then some v :: os else o :: setN ns os x v
  | _, σ, _, _ => σ
theorem setN_eq {v : V} : ∀ {N : List Str} {σ : St} {x : Str} {i : Nat}, N[i]? = some x → N.Nodup → setN N σ x v = σ.set i (some v)
  | [], _, _, _, h, _ => by simp at h
  | n :: ns, [], x, i, h, _ => by simp [setN]
  | n :: ns, o :: os, x, 0, h, _ => by
    have e : n = x := by simpa using h
    unfold setN
    rw [if_pos e.symm]
    rfl
  | n :: ns, o :: os, x, i + 1, h, hn => by
    have h' : ns[i]? = some x := by simpa using h
    have hne : x ≠ n := fun e => (List.nodup_cons.mp hn).1 (e ▸ List.mem_of_getElem? h')
    unfold setN
    rw [if_neg hne, setN_eq h' (List.nodup_cons.mp hn).2]
    rfl
theorem idx_of {N : List Str} {x : Str} (h : N.contains x = true) : ∃ i : Nat, N[i]? = some x := by
  have h' : x ∈ N := by simpa using h
  exact List.getElem?_of_mem h'
theorem at_idx {N : List Str} {x : Str} (h : N.contains x = true) : N[N.idxOf x]? = some x := by
  have h' : x ∈ N := by simpa using h
  rw [List.getElem?_eq_getElem (List.idxOf_lt_length_of_mem h')]
  rw [List.getElem_idxOf]
theorem s_set {σ' : St} (hN : X.N.Nodup) (hi : X.N.contains x = true) (hx : Loc X.env.scope x) (hf : X.fn x = true ∨ X.env.scope.names.lookup x = some .local) (hs : swapsWith e (some (.Name x pos')) pos.line X.env = pure false)
    (q : RE X e σ H fun v H1 => nx (setN X.N σ x v) H1) : RS X (.Assign [.Name x pos'] e pos) ⟨nx, rt', bk, ct⟩ σ H := by
  obtain ⟨i, h⟩ := idx_of hi
  refine rs_of (ps_set (i := i) hN h hx (re e) hs hf) ?_
  have e1 : (fun v H1 => nx (setN X.N σ x v) H1) = fun v H1 => nx (σ.set i (some v)) H1 := by
    funext v H1
    rw [setN_eq h hN]
  rw [e1] at q
  exact q
theorem e_name (h : (X.N.zip σ).lookup x = some (some v)) (hv : Vis X.env.scope x) (hd : (x == ("__debug__" : Str)) = false) (hcd : (x == ("__classdict__" : Str)) = false) (q : Q v H) : RE X (.Name x pos) σ H Q := by
  obtain ⟨i, h1, h2⟩ : ∃ i : Nat, X.N[i]? = some x ∧ σ[i]? = some (some v) := by
    generalize X.N = N at h
    clear q hv hd hcd
    induction N generalizing σ with
    | nil => simp at h
    | cons n ns ih =>
      cases σ with
      | nil => simp at h
      | cons o os =>
        rw [List.zip_cons_cons, List.lookup_cons] at h
        split at h
        · rename_i hh
          have e : x = n := by simpa using hh
          exact ⟨0, by rw [e]; rfl, by cases h; rfl⟩
        · obtain ⟨i, h1, h2⟩ := ih h
          exact ⟨i + 1, h1, h2⟩
  exact re_of (pe_var h1 hv hd hcd) ⟨v, h2, q⟩
theorem e_glob {u : Value} (hg : Gl X x) (hm : X.mg x = some u) (r : RelV v u) (hd : (x == ("__debug__" : Str)) = false) (q : Q v H) : RE X (.Name x pos) σ H Q := re_of (pe_glob hg hm r hd) q
theorem e_bltn {u : Value} (hg : Gl X x) (hm : X.mg x = none) (hv : bootBuiltins x = some u) (r : RelV v u) (hn : x ≠ "__name__") (hd : (x == ("__debug__" : Str)) = false) (q : Q v H) : RE X (.Name x pos) σ H Q := re_of (pe_bltn hg hm hv r hn hd) q
theorem s_asg {tg : Expr} (hs : swapsWithSole [tg] e pos.line X.env = pure false) (hw : swappedStores [tg] e X.env = pure none) (h1 : (assignEach [tg] X.env).map (·.2) = [assign tg X.env])
    (q : RE X e σ H fun v H1 => RG X tg v σ H1 nx) : RS X (.Assign [tg] e pos) ⟨nx, rt', bk, ct⟩ σ H := rs_of (ps_asg (re e) (rg tg) hs hw h1) q
theorem g_name {Qg : St → Hp → Prop} (hN : X.N.Nodup) (hi : X.N.contains x = true) (hx : Loc X.env.scope x) (hf : X.fn x = true ∨ X.env.scope.names.lookup x = some .local) (q : Qg (setN X.N σ x v) H) : RG X (.Name x pos) v σ H Qg := by
  obtain ⟨i, h⟩ := idx_of hi
  rw [setN_eq h hN] at q
  exact rg_of (pg_name (i := i) hN h hx hf) q
theorem g_tup {Qg : St → Hp → Prop} {k : Nat} {n : Nat} (hc : X.calm = true) (hn : (assignEach es X.env).length = n) (hst : (assignEach es X.env).findIdx? (·.1) = none) {t : Addr} {xs : List V} (hx : SqT X.K H t xs) (hl : xs.length = n)
    (q : RGs X es xs σ H Qg) : RG X (.Tuple es k pos) (.ref t) σ H Qg := rg_of (pg_tup hc (rgs es) hn hst) ⟨t, xs, rfl, hx, hl, q⟩
theorem gs_nil {Qg : St → Hp → Prop} (q : Qg σ H) : RGs X [] [] σ H Qg := rgs_of pgs_nil ⟨rfl, q⟩
theorem gs_cons {Qg : St → Hp → Prop} {vs : List V} (hs : (assignEach (e :: es) X.env).map (·.2) = assign e X.env :: (assignEach es X.env).map (·.2)) (q : RG X e v σ H fun σ' H' => RGs X es vs σ' H' Qg) : RGs X (e :: es) (v :: vs) σ H Qg := rgs_of (pgs_cons (rg e) (rgs es) hs) ⟨v, vs, rfl, q⟩
theorem g_sub {Qg : St → Hp → Prop} (ha : ∀ y, assign (.Subscript o a pos) X.env y = (do let z ← holding [y] (eval o X.env); let i ← holding [y, z] (eval a X.env); standAt pos; holding [y, z, i] (setItem z i y); release [y, z, i] [])) (q : RE X o σ H fun z H1 => RE X a σ H1 fun i H2 => RSet X z i v H2 fun H3 => Qg σ H3) : RG X (.Subscript o a pos) v σ H Qg := rg_of (pg_sub (re o) (re a) rset ha) q

/-! ### operators on ints -/
variable {i j : Int}
theorem o_add (q : Q (.int (i + j)) H) : RO X (binaryOp .Add) (.int i) (.int j) H Q := ro_of op_add ⟨i, j, rfl, rfl, q⟩
theorem o_sub (q : Q (.int (i - j)) H) : RO X (binaryOp .Sub) (.int i) (.int j) H Q := ro_of op_sub ⟨i, j, rfl, rfl, q⟩
theorem o_mul (hc : IntMulOk i j) (q : Q (.int (i * j)) H) : RO X (binaryOp .Mult) (.int i) (.int j) H Q := by
  refine ro_of (r := rI IntMulOk fun i j => .int (i * j)) ?_ ⟨i, j, rfl, rfl, hc, q⟩
  exact opI fun _ _ _ _ _ _ _ hc q => mul_int q hc
theorem o_mod (h : 0 < j) (q : Q (.int (i % j)) H) : RO X (binaryOp .Mod) (.int i) (.int j) H Q := ro_of op_mod ⟨i, j, rfl, rfl, h, q⟩
theorem o_fdiv (h : 0 < j) (hb : j < 2 ^ 8999) (q : Q (.int (i / j)) H) : RO X (binaryOp .FloorDiv) (.int i) (.int j) H Q :=
  ro_of op_fdivW ⟨i, j, rfl, rfl, wide_div (b := 8999) h (by omega) (by decide) (by decide), q⟩
theorem o_fdiv30 (h : 0 < j ∧ j < 1073741824) (q : Q (.int (i / j)) H) : RO X (binaryOp .FloorDiv) (.int i) (.int j) H Q := ro_of op_fdiv ⟨i, j, rfl, rfl, h, q⟩
theorem o_pow (h : 0 ≤ j ∧ j ≤ 1000000 ∧ i.natAbs < 2 ^ 64) (q : Q (.int (i ^ j.toNat)) H) : RO X (binaryOp .Pow) (.int i) (.int j) H Q := ro_of op_pow ⟨i, j, rfl, rfl, h, q⟩
theorem o_shl (h : CShl i j) (q : Q (.int (i * 2 ^ j.toNat)) H) : RO X (binaryOp .LShift) (.int i) (.int j) H Q := ro_of op_shlW ⟨i, j, rfl, rfl, h, q⟩
theorem o_shr (h : 0 ≤ j) (q : Q (.int (i / 2 ^ j.toNat)) H) : RO X (binaryOp .RShift) (.int i) (.int j) H Q := ro_of op_shr ⟨i, j, rfl, rfl, h, q⟩
theorem o_and (q : Q (.int (Builtin.bitAnd i j)) H) : RO X (binaryOp .BitAnd) (.int i) (.int j) H Q := ro_of op_and ⟨i, j, rfl, rfl, q⟩
theorem o_or (q : Q (.int (Builtin.bitOr i j)) H) : RO X (binaryOp .BitOr) (.int i) (.int j) H Q := ro_of op_or ⟨i, j, rfl, rfl, q⟩
theorem o_xor (q : Q (.int (Builtin.bitXor i j)) H) : RO X (binaryOp .BitXor) (.int i) (.int j) H Q := ro_of op_xor ⟨i, j, rfl, rfl, q⟩
theorem u_neg (q : Q (.int (-i)) H) : RU X (unaryOp .USub) (.int i) H Q := ru_of un_neg ⟨i, rfl, q⟩
theorem u_inv (q : Q (.int (Builtin.bitNot i)) H) : RU X (unaryOp .Invert) (.int i) H Q := ru_of un_inv ⟨i, rfl, q⟩
theorem c_lt (q : Q (.bl (decide (i < j))) H) : RO X (compareOp .Lt) (.int i) (.int j) H Q := ro_of op_lt ⟨i, j, rfl, rfl, q⟩
theorem c_le (q : Q (.bl (decide (i ≤ j))) H) : RO X (compareOp .LtE) (.int i) (.int j) H Q := ro_of op_le ⟨i, j, rfl, rfl, q⟩
theorem c_gt (q : Q (.bl (decide (j < i))) H) : RO X (compareOp .Gt) (.int i) (.int j) H Q := ro_of op_gt ⟨i, j, rfl, rfl, q⟩
theorem c_ge (q : Q (.bl (decide (j ≤ i))) H) : RO X (compareOp .GtE) (.int i) (.int j) H Q := ro_of op_ge ⟨i, j, rfl, rfl, q⟩
theorem c_eqI (q : Q (.bl (decide (i = j))) H) : RO X (compareOp .Eq) (.int i) (.int j) H Q := ro_of op_eq ⟨rfl, (show decide (V.int i = V.int j) = decide (i = j) by simp) ▸ q⟩
theorem c_neI (q : Q (.bl (!decide (i = j))) H) : RO X (compareOp .NotEq) (.int i) (.int j) H Q := ro_of op_ne ⟨rfl, (show decide (V.int i = V.int j) = decide (i = j) by simp) ▸ q⟩
theorem c_eqS {y z : Str} (q : Q (.bl (decide (y = z))) H) : RO X (compareOp .Eq) (.str y) (.str z) H Q := ro_of op_eq ⟨rfl, (show decide (V.str y = V.str z) = decide (y = z) by simp) ▸ q⟩
theorem c_neS {y z : Str} (q : Q (.bl (!decide (y = z))) H) : RO X (compareOp .NotEq) (.str y) (.str z) H Q := ro_of op_ne ⟨rfl, (show decide (V.str y = V.str z) = decide (y = z) by simp) ▸ q⟩
theorem c_eqB {y z : Bool} (q : Q (.bl (decide (y = z))) H) : RO X (compareOp .Eq) (.bl y) (.bl z) H Q := ro_of op_eq ⟨rfl, (show decide (V.bl y = V.bl z) = decide (y = z) by simp) ▸ q⟩
theorem c_neB {y z : Bool} (q : Q (.bl (!decide (y = z))) H) : RO X (compareOp .NotEq) (.bl y) (.bl z) H Q := ro_of op_ne ⟨rfl, (show decide (V.bl y = V.bl z) = decide (y = z) by simp) ▸ q⟩
theorem c_isN (q : Q (.bl (decide (v = .non))) H) : RO X (compareOp .Is) v .non H Q := ro_of op_isN ⟨rfl, q⟩
theorem c_notN (q : Q (.bl (!decide (v = .non))) H) : RO X (compareOp .IsNot) v .non H Q := ro_of op_notN ⟨rfl, q⟩
theorem tr_bl {k : Bool} (q : QB k H) : RTru X (.bl k) H QB := rtru_of tru_ok ⟨k, rfl, q⟩
theorem tr_int (q : QB (i != 0) H) : RTru X (.int i) H QB := rtru_of tru_ok ⟨_, rfl, q⟩
theorem ix_lst {p : Addr} {xs : List V} (h : SqL X.K H p xs) (ha : atI xs i = some v) (q : Q v H) : RIx X (.ref p) (.int i) H Q := rix_of ix_list ⟨p, xs, i, v, rfl, rfl, h, ha, q⟩
theorem ix_tp {p : Addr} {xs : List V} (h : SqT X.K H p xs) (ha : atI xs i = some v) (q : Q v H) : RIx X (.ref p) (.int i) H Q := rix_of ix_tup ⟨p, xs, i, v, rfl, rfl, h, ha, q⟩
theorem set_lst {p : Addr} {xs : List V} {k : Nat} {Qh : Hp → Prop} (h : H p = some (.lst xs)) (hk : ixN xs.length i = some k) (q : Qh (upd H p (.lst (xs.set k v)))) : RSet X (.ref p) (.int i) v H Qh := rset_of set_list ⟨p, xs, i, k, rfl, rfl, h, hk, q⟩
theorem sl_l {p : Addr} {xs : List V} {lo hi : Option Int} (h : SqL X.K H p xs) (q : ∀ l, H l = none → Q (.ref l) (upd H l (.lst (cutV xs lo hi)))) : RSl X (.ref p) lo hi H Q := rsl_of sl_list ⟨p, xs, rfl, h, q⟩
theorem sl_t {p : Addr} {xs : List V} {lo hi : Option Int} (h : SqT X.K H p xs) (q1 : HT.sIx xs.length 0 lo = 0 ∧ HT.sIx xs.length xs.length hi = xs.length → Q (.ref p) H) (q2 : ¬ (HT.sIx xs.length 0 lo = 0 ∧ HT.sIx xs.length xs.length hi = xs.length) → ∀ l, H l = none → Q (.ref l) (upd H l (.tup (cutV xs lo hi)))) : RSl X (.ref p) lo hi H Q := rsl_of sl_tupA ⟨p, xs, rfl, h, q1, q2⟩
theorem sl_s {z : Str} {lo hi : Option Int} (h : z.length ≤ sizeLine) (q : Q (.str (cutS z lo hi)) H) : RSl X (.str z) lo hi H Q := rsl_of sl_str ⟨z, rfl, h, q⟩
theorem o_cat {p r : Addr} {xs ys : List V} (h1 : H p = some (.lst xs)) (h2 : H r = some (.lst ys)) (hz : xs.length + ys.length ≤ sizeLine) (q : ∀ l, H l = none → Q (.ref l) (upd H l (.lst (xs ++ ys)))) : RO X (binaryOp .Add) (.ref p) (.ref r) H Q := ro_of op_cat ⟨p, r, xs, ys, rfl, rfl, h1, h2, hz, q⟩
theorem o_addS {y z : Str} (h : y.length + z.length ≤ sizeLine) (q : Q (.str (y ++ z)) H) : RO X (binaryOp .Add) (.str y) (.str z) H Q := ro_of op_add_str ⟨y, z, rfl, rfl, h, q⟩
theorem o_rep {p : Addr} {k : Int} {xs : List V} (h : H p = some (.lst xs)) (h1 : -(2 ^ 63) ≤ k) (h2 : k < 2 ^ 63) (hz : xs.length * k.toNat ≤ sizeLine) (q : ∀ l, H l = none → Q (.ref l) (upd H l (.lst (List.flatten (List.replicate k.toNat xs))))) : RO X (binaryOp .Mult) (.ref p) (.int k) H Q := by
  refine ro_of op_rep ⟨p, k, xs, rfl, rfl, h, h1, h2, hz, fun l hl => ?_⟩
  exact q l hl
theorem exI {i : Int} {A : Int → Prop} (q : A i) : ∃ k, V.int i = V.int k ∧ A k := ⟨i, rfl, q⟩
theorem b_int (q : Q (.int i) H) : RC X (.type "int") [.int i] H Q := rc_of call_int1 (.inl ⟨i, rfl, q⟩)
theorem b_abs (q : Q (.int (if i < 0 then -i else i)) H) : RC X (.builtin "abs") [.int i] H Q := rc_of call_abs ⟨i, rfl, q⟩
theorem b_max2 (hc : X.calm = true) (q : Q (.int (if j > i then j else i)) H) : RC X (.builtin "max") [.int i, .int j] H Q := rc_of (call_max2 hc) ⟨i, j, rfl, q⟩
theorem b_min2 (hc : X.calm = true) (q : Q (.int (if j < i then j else i)) H) : RC X (.builtin "min") [.int i, .int j] H Q := rc_of (call_min2 hc) ⟨i, j, rfl, q⟩
theorem b_lenL {p : Addr} {xs : List V} (h : SqL X.K H p xs) (q : Q (.int xs.length) H) : RC X (.builtin "len") [.ref p] H Q := rc_of call_len_seq ⟨p, xs, rfl, .inl h, q⟩
theorem b_lenT {p : Addr} {xs : List V} (h : SqT X.K H p xs) (q : Q (.int xs.length) H) : RC X (.builtin "len") [.ref p] H Q := rc_of call_len_seq ⟨p, xs, rfl, .inr h, q⟩
theorem b_divmod (h : 0 < j ∧ j < 1073741824) (q : ∀ p, H p = none → Q (.ref p) (upd H p (.tup [.int (i / j), .int (i % j)]))) : RC X (.builtin "divmod") [.int i, .int j] H Q := rc_of call_divmod ⟨i, j, rfl, h, q⟩
theorem b_tupL {p : Addr} {xs : List V} (h : SqL X.K H p xs) (q : ∀ l, H l = none → Q (.ref l) (upd H l (.tup xs))) : RC X (.type "tuple") [.ref p] H Q := rc_of call_tuple_of ⟨p, xs, rfl, .inl ⟨h, q⟩⟩
theorem b_tupT {p : Addr} {xs : List V} (h : SqT X.K H p xs) (q : Q (.ref p) H) : RC X (.type "tuple") [.ref p] H Q := rc_of call_tuple_of ⟨p, xs, rfl, .inr ⟨h, q⟩⟩
theorem b_lstL {p : Addr} {xs : List V} (h : SqL X.K H p xs) (q : ∀ l, H l = none → Q (.ref l) (upd H l (.lst xs))) : RC X (.type "list") [.ref p] H Q := rc_of call_list_of ⟨p, xs, rfl, .inl h, q⟩
theorem b_lstT {p : Addr} {xs : List V} (h : SqT X.K H p xs) (q : ∀ l, H l = none → Q (.ref l) (upd H l (.lst xs))) : RC X (.type "list") [.ref p] H Q := rc_of call_list_of ⟨p, xs, rfl, .inr h, q⟩
theorem b_all (hc : X.calm = true) {p : Addr} {bs : List Bool} (h : SqL X.K H p (bs.map V.bl)) (q : Q (.bl (bs.all id)) H) : RC X (.builtin "all") [.ref p] H Q := rc_of (cr_all hc) ⟨p, bs, rfl, h, q⟩
theorem mulL (h1 : -(2 ^ 64) < i) (h2 : i < 2 ^ 64) : IntMulOk i j := CMul.ok (.inl ⟨h1, h2⟩)
theorem mulR (h1 : -(2 ^ 64) < j) (h2 : j < 2 ^ 64) : IntMulOk i j := CMul.ok (.inr ⟨h1, h2⟩)
/-! ### branches -/
theorem brT {k : Bool} {A B : Prop} (h : k = true) (q : A) : if k = true then A else B := by rw [if_pos h]; exact q
theorem brF {k : Bool} {A B : Prop} (h : k = false) (q : B) : if k = true then A else B := by rw [h]; exact iteF q
theorem brD {P : Prop} [Decidable P] {A B : Prop} (h1 : P → A) (h2 : ¬ P → B) : if decide P = true then A else B := by
  by_cases h : P
  · rw [decide_eq_true h]; exact iteT (h1 h)
  · rw [decide_eq_false h]; exact iteF (h2 h)
theorem brN {P : Prop} [Decidable P] {A B : Prop} (h1 : ¬ P → A) (h2 : P → B) : if (!decide P) = true then A else B := by
  by_cases h : P
  · rw [decide_eq_true h]; exact iteF (h2 h)
  · rw [decide_eq_false h]; exact iteT (h1 h)
theorem brDT {P : Prop} [Decidable P] {A B : Prop} (h : P) (q : A) : if decide P = true then A else B := by rw [decide_eq_true h]; exact iteT q
theorem brDF {P : Prop} [Decidable P] {A B : Prop} (h : ¬ P) (q : B) : if decide P = true then A else B := by rw [decide_eq_false h]; exact iteF q
theorem brNT {P : Prop} [Decidable P] {A B : Prop} (h : ¬ P) (q : A) : if (!decide P) = true then A else B := by rw [decide_eq_false h]; exact iteT q
theorem brNF {P : Prop} [Decidable P] {A B : Prop} (h : P) (q : B) : if (!decide P) = true then A else B := by rw [decide_eq_true h]; exact iteF q
theorem brNt {A B : Prop} (q : B) : if (!true) = true then A else B := q
theorem brNf {A B : Prop} (q : A) : if (!false) = true then A else B := q
theorem normS {σ' : St} {ns : St → Hp → Prop} (h : σ = σ') (q : ns σ' H) : ns σ H := by rw [h]; exact q
end
/-! ### joining ways -/
section
variable {X : Cx} {e a b : Expr} {A B : List Stmt} {st : Stmt} {σ : St} {H : Hp} {Q R : VK} {nx bk ct Mid : St → Hp → Prop} {rt' : VK}
theorem re_mono (h : RE X e σ H R) (k : ∀ v H', R v H' → Q v H') : RE X e σ H Q := fun pins s I => thn (h pins s I) fun u s' ⟨v, H', I', r, q⟩ => ⟨v, H', I', r, k v H' q⟩
theorem rt_mono {e : Expr} {R Q : Bool → Hp → Prop} (h : RT X e σ H R) (k : ∀ v H', R v H' → Q v H') : RT X e σ H Q := fun pins s I => thn (h pins s I) fun v s' ⟨H', I', q⟩ => ⟨H', I', k v H' q⟩
theorem rss_mono {sts : List Stmt} (h : RSs X sts ⟨Mid, rt', bk, ct⟩ σ H) (k : ∀ σ' H', Mid σ' H' → nx σ' H') : RSs X sts ⟨nx, rt', bk, ct⟩ σ H := fun pins s I => thn (h pins s I) fun f s' q => by
  cases f with
  | next => obtain ⟨σ', H', I', q⟩ := q; exact ⟨σ', H', I', k σ' H' q⟩
  | brk => exact q
  | cont => exact q
  | ret u => exact q
theorem rs_mono (h : RS X st ⟨Mid, rt', bk, ct⟩ σ H) (k : ∀ σ' H', Mid σ' H' → nx σ' H') : RS X st ⟨nx, rt', bk, ct⟩ σ H := fun pins s I => thn (h pins s I) fun f s' q => by
  cases f with
  | next => obtain ⟨σ', H', I', q⟩ := q; exact ⟨σ', H', I', k σ' H' q⟩
  | brk => exact q
  | cont => exact q
  | ret u => exact q
theorem brJE {k : Bool} {H1 : Hp} (R : VK) (h1 : k = true → RE X a σ H1 R) (h2 : k = false → RE X b σ H1 R) (q : ∀ v H', R v H' → Q v H') : if k = true then RE X a σ H1 Q else RE X b σ H1 Q := by
  cases k with
  | true => exact iteT (re_mono (h1 rfl) q)
  | false => exact iteF (re_mono (h2 rfl) q)
theorem brJS {k : Bool} {H1 : Hp} (Mid : St → Hp → Prop) (h1 : k = true → RSs X A ⟨Mid, rt', bk, ct⟩ σ H1) (h2 : k = false → RSs X B ⟨Mid, rt', bk, ct⟩ σ H1) (q : ∀ σ' H', Mid σ' H' → nx σ' H') : if k = true then RSs X A ⟨nx, rt', bk, ct⟩ σ H1 else RSs X B ⟨nx, rt', bk, ct⟩ σ H1 := by
  cases k with
  | true => exact iteT (rss_mono (h1 rfl) q)
  | false => exact iteF (rss_mono (h2 rfl) q)
end

/-! ### heaps -/
def Grow (H H' : Hp) : Prop := ∀ b o, H b = some o → H' b = some o
theorem Grow.refl (H : Hp) : Grow H H := fun _ _ h => h
theorem Grow.trans {H H1 H2 : Hp} (a : Grow H H1) (b : Grow H1 H2) : Grow H H2 := fun c o h => b c o (a c o h)
theorem Grow.upd {H : Hp} {p : Addr} {o : HO} (h : H p = none) : Grow H (upd H p o) := fun b x e => by
  rw [upd_ne (ne_of_none e h)]
  exact e
/-- all but p -/
def GrowX (p : Addr) (H H' : Hp) : Prop := ∀ b o, H b = some o → b ≠ p → H' b = some o
theorem GrowX.refl (p : Addr) (H : Hp) : GrowX p H H := fun _ _ h _ => h
theorem GrowX.trans {p : Addr} {H H1 H2 : Hp} (a : GrowX p H H1) (b : GrowX p H1 H2) : GrowX p H H2 := fun c o h n => b c o (a c o h n) n
theorem Grow.x {H H' : Hp} (p : Addr) (g : Grow H H') : GrowX p H H' := fun b o h _ => g b o h
theorem GrowX.upd {H : Hp} {p : Addr} {o : HO} : GrowX p H (upd H p o) := fun b x e n => by
  rw [upd_ne n]
  exact e
theorem GrowX.mut {p D : Addr} {o : HO} {H H' : Hp} (g : GrowX p H H') (hD : H D = none) : GrowX p H (L2.upd H' D o) := fun b x e n => by
  rw [upd_ne (ne_of_none e hD)]
  exact g b x e n
theorem Grow.mut {D : Addr} {o : HO} {H H' : Hp} (g : Grow H H') (hD : H D = none) : Grow H (L2.upd H' D o) := fun b x e => by
  rw [upd_ne (ne_of_none e hD)]
  exact g b x e
theorem GrowX.new {p D : Addr} {o : HO} {H H' : Hp} (g : GrowX p H H') (hD : H' D = none) : GrowX p H (L2.upd H' D o) := fun b x e n => by
  have h := g b x e n
  rw [upd_ne (ne_of_none h hD)]
  exact h
theorem Grow.new {D : Addr} {o : HO} {H H' : Hp} (g : Grow H H') (hD : H' D = none) : Grow H (L2.upd H' D o) := fun b x e => by
  have h := g b x e
  rw [upd_ne (ne_of_none h hD)]
  exact h
theorem GrowX.non {p : Addr} {H H' : Hp} (g : GrowX p H H') (hp : ∃ o, H' p = some o) {b : Addr} (h : H' b = Option.none) : H b = Option.none := by
  cases q : H b with
  | none => rfl
  | some o =>
    by_cases e : b = p
    · subst e
      obtain ⟨_, z⟩ := hp
      rw [z] at h
      cases h
    · rw [g b o q e] at h
      cases h
theorem GrowX.free {p : Addr} {H H' : Hp} (g : GrowX p H H') (hp : ∃ o, H p = some o) {b : Addr} (h : H' b = none) : H b = none ∨ b = p := by
  by_cases e : b = p
  · exact .inr e
  · cases q : H b with
    | none => exact .inl rfl
    | some o => rw [g b o q e] at h; cases h
theorem Grow.free {H H' : Hp} (g : Grow H H') {b : Addr} (h : H' b = none) : H b = none := by
  cases q : H b with
  | none => rfl
  | some o => rw [g b o q] at h; cases h

theorem updN {H : Hp} {p q : Addr} {o x : HO} (hq : H q = Option.none) (hp : H p = some x) : L2.upd H q o p = some x := by
  rw [upd_ne (ne_of_none hp hq)]
  exact hp
theorem updNe {H : Hp} {p q : Addr} {o x : HO} (h : p ≠ q) (hp : H p = some x) : L2.upd H q o p = some x := by
  rw [upd_ne h]
  exact hp
theorem sq_new {K : PySem.W.Frag} {H H' : Hp} {b : Addr} {xs : List V} (g : Grow H H') (h : SqL K H b xs) : SqL K H' b xs := by
  rcases h with (h | ⟨o, h⟩) | h
  · exact .inl (.inl (g _ _ h))
  · exact .inl (.inr ⟨o, g _ _ h⟩)
  · exact .inr h
theorem st_new {K : PySem.W.Frag} {H H' : Hp} {b : Addr} {xs : List V} (g : Grow H H') (h : SqT K H b xs) : SqT K H' b xs := by
  rcases h with (h | ⟨o, h⟩) | h
  · exact .inl (.inl (g _ _ h))
  · exact .inl (.inr ⟨o, g _ _ h⟩)
  · exact .inr h
theorem sq_updN {K : PySem.W.Frag} {H : Hp} {q b : Addr} {o : HO} {xs : List V} (hq : H q = none) (h : SqL K H b xs) : SqL K (L2.upd H q o) b xs := sq_new (Grow.upd hq) h
theorem st_updN {K : PySem.W.Frag} {H : Hp} {q b : Addr} {o : HO} {xs : List V} (hq : H q = none) (h : SqT K H b xs) : SqT K (L2.upd H q o) b xs := st_new (Grow.upd hq) h
theorem size5 {n : Nat} (h : n ≤ 100000) : n ≤ sizeLine := Nat.le_trans h (by decide)
theorem size5l {n : Nat} (h : n < 100000) : n < sizeLine := Nat.lt_of_lt_of_le h (by decide)
/-! ### left-overs -/
theorem exB {k : Bool} {A : Bool → Prop} (q : A k) : ∃ k', V.bl k = V.bl k' ∧ A k' := ⟨k, rfl, q⟩
theorem lenOk {xs : List V} {B : Prop} (h : xs.length ≤ sizeLine) (q : B) : xs.length ≤ sizeLine ∧ B := ⟨h, q⟩
theorem allMade {H : Hp} {A : Addr → Addr → Prop} (q : ∀ x dx, H x = none → H dx = none → dx ≠ x → A x dx) : ∀ x dx, H x = none → H dx = none → dx ≠ x → A x dx := q
theorem allNew {H : Hp} {A : Addr → Prop} (q : ∀ p, H p = none → A p) : ∀ p, H p = none → A p := q

/-! ### the built-ins that no name of the module hides -/
structure Blt (mg : Str → Option Value) : Prop where
  len : mg "len" = none
  int : mg "int" = none
  abs : mg "abs" = none
  range : mg "range" = none
  tuple : mg "tuple" = none
  list : mg "list" = none
  set : mg "set" = none
  sorted : mg "sorted" = none
  all : mg "all" = none
  divmod : mg "divmod" = none
  isinstance : mg "isinstance" = none
  str : mg "str" = none
  repr : mg "repr" = none
  bool : mg "bool" = none
  min : mg "min" = none
  max : mg "max" = none
  zip : mg "zip" = none
  enumerate : mg "enumerate" = none
  sum : mg "sum" = none

/-! ### built-ins by their names -/
section
variable {X : Cx} {p pos : Pos} {e : Expr} {es : List Expr} {σ : St} {H : Hp} {Q : VK}
theorem e_b_len (B : Blt X.mg) (hg : Gl X "len") (hs : starEach (e :: es) X.env = (false, eval e X.env) :: starEach es X.env) (hpl : (backTo pos (starEach es X.env)).any (·.1) = false) (q : RA X (e :: es) σ H fun vs H1 => RC X (.builtin "len") vs H1 Q) :
    RE X (.Call (.Name "len" p) (e :: es) [] pos) σ H Q := e_callB hg B.len (by decide +kernel) (by decide) (by decide) hs hpl q
theorem e_b_int (B : Blt X.mg) (hg : Gl X "int") (hs : starEach (e :: es) X.env = (false, eval e X.env) :: starEach es X.env) (hpl : (backTo pos (starEach es X.env)).any (·.1) = false) (q : RA X (e :: es) σ H fun vs H1 => RC X (.type "int") vs H1 Q) :
    RE X (.Call (.Name "int" p) (e :: es) [] pos) σ H Q := e_callTy hg B.int (by decide +kernel) (by decide) (by decide) hs hpl q
theorem e_b_abs (B : Blt X.mg) (hg : Gl X "abs") (hs : starEach (e :: es) X.env = (false, eval e X.env) :: starEach es X.env) (hpl : (backTo pos (starEach es X.env)).any (·.1) = false) (q : RA X (e :: es) σ H fun vs H1 => RC X (.builtin "abs") vs H1 Q) :
    RE X (.Call (.Name "abs" p) (e :: es) [] pos) σ H Q := e_callB hg B.abs (by decide +kernel) (by decide) (by decide) hs hpl q
theorem e_b_tuple (B : Blt X.mg) (hg : Gl X "tuple") (hs : starEach (e :: es) X.env = (false, eval e X.env) :: starEach es X.env) (hpl : (backTo pos (starEach es X.env)).any (·.1) = false) (q : RA X (e :: es) σ H fun vs H1 => RC X (.type "tuple") vs H1 Q) :
    RE X (.Call (.Name "tuple" p) (e :: es) [] pos) σ H Q := e_callTy hg B.tuple (by decide +kernel) (by decide) (by decide) hs hpl q
theorem e_b_list (B : Blt X.mg) (hg : Gl X "list") (hs : starEach (e :: es) X.env = (false, eval e X.env) :: starEach es X.env) (hpl : (backTo pos (starEach es X.env)).any (·.1) = false) (q : RA X (e :: es) σ H fun vs H1 => RC X (.type "list") vs H1 Q) :
    RE X (.Call (.Name "list" p) (e :: es) [] pos) σ H Q := e_callTy hg B.list (by decide +kernel) (by decide) (by decide) hs hpl q
theorem e_b_set (B : Blt X.mg) (hg : Gl X "set") (hs : starEach (e :: es) X.env = (false, eval e X.env) :: starEach es X.env) (hpl : (backTo pos (starEach es X.env)).any (·.1) = false) (q : RA X (e :: es) σ H fun vs H1 => RC X (.type "set") vs H1 Q) :
    RE X (.Call (.Name "set" p) (e :: es) [] pos) σ H Q := e_callTy hg B.set (by decide +kernel) (by decide) (by decide) hs hpl q
theorem e_b_sorted (B : Blt X.mg) (hg : Gl X "sorted") (hs : starEach (e :: es) X.env = (false, eval e X.env) :: starEach es X.env) (hpl : (backTo pos (starEach es X.env)).any (·.1) = false) (q : RA X (e :: es) σ H fun vs H1 => RC X (.builtin "sorted") vs H1 Q) :
    RE X (.Call (.Name "sorted" p) (e :: es) [] pos) σ H Q := e_callB hg B.sorted (by decide +kernel) (by decide) (by decide) hs hpl q
theorem e_b_all (B : Blt X.mg) (hg : Gl X "all") (hs : starEach (e :: es) X.env = (false, eval e X.env) :: starEach es X.env) (hpl : (backTo pos (starEach es X.env)).any (·.1) = false) (q : RA X (e :: es) σ H fun vs H1 => RC X (.builtin "all") vs H1 Q) :
    RE X (.Call (.Name "all" p) (e :: es) [] pos) σ H Q := e_callB hg B.all (by decide +kernel) (by decide) (by decide) hs hpl q
theorem e_b_divmod (B : Blt X.mg) (hg : Gl X "divmod") (hs : starEach (e :: es) X.env = (false, eval e X.env) :: starEach es X.env) (hpl : (backTo pos (starEach es X.env)).any (·.1) = false) (q : RA X (e :: es) σ H fun vs H1 => RC X (.builtin "divmod") vs H1 Q) :
    RE X (.Call (.Name "divmod" p) (e :: es) [] pos) σ H Q := e_callB hg B.divmod (by decide +kernel) (by decide) (by decide) hs hpl q
theorem e_b_isinstance (B : Blt X.mg) (hg : Gl X "isinstance") (hs : starEach (e :: es) X.env = (false, eval e X.env) :: starEach es X.env) (hpl : (backTo pos (starEach es X.env)).any (·.1) = false) (q : RA X (e :: es) σ H fun vs H1 => RC X (.builtin "isinstance") vs H1 Q) :
    RE X (.Call (.Name "isinstance" p) (e :: es) [] pos) σ H Q := e_callB hg B.isinstance (by decide +kernel) (by decide) (by decide) hs hpl q
theorem e_b_str (B : Blt X.mg) (hg : Gl X "str") (hs : starEach (e :: es) X.env = (false, eval e X.env) :: starEach es X.env) (hpl : (backTo pos (starEach es X.env)).any (·.1) = false) (q : RA X (e :: es) σ H fun vs H1 => RC X (.type "str") vs H1 Q) :
    RE X (.Call (.Name "str" p) (e :: es) [] pos) σ H Q := e_callTy hg B.str (by decide +kernel) (by decide) (by decide) hs hpl q
theorem e_b_repr (B : Blt X.mg) (hg : Gl X "repr") (hs : starEach (e :: es) X.env = (false, eval e X.env) :: starEach es X.env) (hpl : (backTo pos (starEach es X.env)).any (·.1) = false) (q : RA X (e :: es) σ H fun vs H1 => RC X (.builtin "repr") vs H1 Q) :
    RE X (.Call (.Name "repr" p) (e :: es) [] pos) σ H Q := e_callB hg B.repr (by decide +kernel) (by decide) (by decide) hs hpl q
theorem e_b_bool (B : Blt X.mg) (hg : Gl X "bool") (hs : starEach (e :: es) X.env = (false, eval e X.env) :: starEach es X.env) (hpl : (backTo pos (starEach es X.env)).any (·.1) = false) (q : RA X (e :: es) σ H fun vs H1 => RC X (.type "bool") vs H1 Q) :
    RE X (.Call (.Name "bool" p) (e :: es) [] pos) σ H Q := e_callTy hg B.bool (by decide +kernel) (by decide) (by decide) hs hpl q
theorem e_b_min (B : Blt X.mg) (hg : Gl X "min") (hs : starEach (e :: es) X.env = (false, eval e X.env) :: starEach es X.env) (hpl : (backTo pos (starEach es X.env)).any (·.1) = false) (q : RA X (e :: es) σ H fun vs H1 => RC X (.builtin "min") vs H1 Q) :
    RE X (.Call (.Name "min" p) (e :: es) [] pos) σ H Q := e_callB hg B.min (by decide +kernel) (by decide) (by decide) hs hpl q
theorem e_b_max (B : Blt X.mg) (hg : Gl X "max") (hs : starEach (e :: es) X.env = (false, eval e X.env) :: starEach es X.env) (hpl : (backTo pos (starEach es X.env)).any (·.1) = false) (q : RA X (e :: es) σ H fun vs H1 => RC X (.builtin "max") vs H1 Q) :
    RE X (.Call (.Name "max" p) (e :: es) [] pos) σ H Q := e_callB hg B.max (by decide +kernel) (by decide) (by decide) hs hpl q
theorem e_b_sum (B : Blt X.mg) (hg : Gl X "sum") (hs : starEach (e :: es) X.env = (false, eval e X.env) :: starEach es X.env) (hpl : (backTo pos (starEach es X.env)).any (·.1) = false) (q : RA X (e :: es) σ H fun vs H1 => RC X (.builtin "sum") vs H1 Q) :
    RE X (.Call (.Name "sum" p) (e :: es) [] pos) σ H Q := e_callB hg B.sum (by decide +kernel) (by decide) (by decide) hs hpl q
end
section
variable {X : Cx} {o : Expr} {apos pos : Pos} {σ : St} {H : Hp} {Q : VK}
theorem e_bits (hbase : attributeBase o "bit_length" X.env (eval o X.env) = eval o X.env) (hline : (apos.endLine == pos.line) = true) (q : RE X o σ H fun x H1 => ∃ i, x = .int i ∧ Q (.int (Builtin.Int.intBits i : Nat)) H1) : RE X (.Call (.Attribute o "bit_length" apos) [] [] pos) σ H Q := re_of (pe_bits (re o) hbase hline) q
end
/-! ### a def of the text, to be called -/
structure Callable (P : Program) (w : World) (K : PySem.W.Frag) (mg : Str → Option Value) (base : Heap) (x : Str) (k : Nat) (ps : List Str) (sp : Sp) : Prop where
  ex : ∃ (f : Addr) (fd : FuncData), FnOk P w K mg base CX0 k f fd ps sp ∧ mg x = some (.ref f) ∧ PySem.W.keepIn K (.ref f) = true ∧ Binds K fd ps []
section
variable {X : Cx} {x : Str} {p pos : Pos} {e : Expr} {es : List Expr} {σ : St} {H : Hp} {Q : VK} {k : Nat} {ps : List Str} {sp : Sp}
theorem e_call (F : Callable X.prog X.w X.K X.mg X.base x k ps sp) (hr : Room k X.A) (hg : Gl X x) (hd : (x == ("__debug__" : Str)) = false) (he : starEach (e :: es) X.env = (false, eval e X.env) :: starEach es X.env) (hpl : (backTo pos (starEach es X.env)).any (·.1) = false)
    (q : RA X (e :: es) σ H fun vs H1 => sp vs H1 Q E0) : RE X (.Call (.Name x p) (e :: es) [] pos) σ H Q := by
  obtain ⟨f, fd, F, hm, hk, hb⟩ := F.ex
  refine re_of (pe_call F hr hg hm hk hb .nil pass0 (ra _) hd he hpl) ?_
  show RA X (e :: es) σ H fun vs H1 => sp (vs ++ []) H1 Q E0
  have e1 : (fun (vs : List V) (H1 : Hp) => sp (vs ++ []) H1 Q E0) = fun vs H1 => sp vs H1 Q E0 := by
    funext vs H1
    rw [List.append_nil]
  rw [e1]
  exact q
end
end Sx

end
section -- Sy
set_option maxRecDepth 100000
set_option maxHeartbeats 4000000
namespace Sx
open PySem PySem.Spec L2
open PyProof.Rows hiding St

section
variable {X : Cx} {e a b c o l : Expr} {es : List Expr} {st : Stmt} {body : List Stmt} {σ : St} {H : Hp} {Q : VK} {pos p : Pos} {x : Str} {v w : V} {nx bk ct : St → Hp → Prop} {rt' : VK} {tg : Expr}

/-! ### loops -/
def ForJ (X : Cx) (tg : Expr) (body : List Stmt) (nx : St → Hp → Prop) (rt' : VK) (σ : St) (J : It) (H1 : Hp) : Prop :=
  ∃ W : Nat → Nat → St → Hp → Prop, (∃ m, W 0 m σ H1) ∧ ∀ i m σ H, W i m σ H →
  (J.stop i H ∧ nx σ H) ∨ (J.go i H ∧ ∃ N : St → Hp → Prop, (∀ σ' H', N σ' H' → ∃ m', m' < m ∧ W (i + 1) m' σ' H') ∧ ∀ x H', J.yld i H x H' → RG X tg x σ H' fun σ2 H2 => RSs X body ⟨N, rt', nx, N⟩ σ2 H2)
theorem s_forI {wi : TI} (hs : ∀ x, foldedSetIterable l X.env x = pure x) (hp : PassesOwn (model X.prog X.w) X.A X.env X.xe) (hc : X.calm = true) (hi : PI X tg l wi) (q : wi σ H fun J H1 => ForJ X tg body nx rt' σ J H1) : RS X (.For tg l body [] pos) ⟨nx, rt', bk, ct⟩ σ H :=
  rs_of (ps_for hp hc hi (rg tg) (rss body) hs) q
def ForL (X : Cx) (tg : Expr) (body : List Stmt) (nx : St → Hp → Prop) (rt' : VK) (σ : St) (x : V) (H1 : Hp) : Prop := ∃ a, x = .ref a ∧ (∃ xs, SqL X.K H1 a xs) ∧ ForJ X tg body nx rt' σ (Itl X.K a) H1
def ForT (X : Cx) (tg : Expr) (body : List Stmt) (nx : St → Hp → Prop) (rt' : VK) (σ : St) (x : V) (H1 : Hp) : Prop := ∃ a, x = .ref a ∧ (∃ xs, SqT X.K H1 a xs) ∧ ForJ X tg body nx rt' σ (Itt X.K a) H1
def ForR1 (X : Cx) (tg : Expr) (body : List Stmt) (nx : St → Hp → Prop) (rt' : VK) (σ : St) (vs : List V) (H1 : Hp) : Prop := ∃ j : Int, vs = [.int j] ∧ -(2 ^ 62) ≤ j ∧ j < 2 ^ 62 ∧ ForJ X tg body nx rt' σ (Itr 0 j.toNat) H1
def ForR2 (X : Cx) (tg : Expr) (body : List Stmt) (nx : St → Hp → Prop) (rt' : VK) (σ : St) (vs : List V) (H1 : Hp) : Prop := ∃ i j : Int, vs = [.int i, .int j] ∧ (-(2 ^ 62) ≤ i ∧ i < 2 ^ 62 ∧ -(2 ^ 62) ≤ j ∧ j < 2 ^ 62) ∧ ForJ X tg body nx rt' σ (Itr i (j - i).toNat) H1
theorem s_forL (hf : ∀ x, foldedSetIterable l X.env x = pure x) (hp : PassesOwn (model X.prog X.w) X.A X.env X.xe) (hc : X.calm = true) (q : RE X l σ H fun x H1 => ForL X tg body nx rt' σ x H1) : RS X (.For tg l body [] pos) ⟨nx, rt', bk, ct⟩ σ H := s_forI hf hp hc (pi_list (re l)) q
theorem s_forT (hf : ∀ x, foldedSetIterable l X.env x = pure x) (hp : PassesOwn (model X.prog X.w) X.A X.env X.xe) (hc : X.calm = true) (q : RE X l σ H fun x H1 => ForT X tg body nx rt' σ x H1) : RS X (.For tg l body [] pos) ⟨nx, rt', bk, ct⟩ σ H := s_forI hf hp hc (pi_tup (re l)) q
theorem s_forR1 {p' : Pos} (hp : PassesOwn (model X.prog X.w) X.A X.env X.xe) (hc : X.calm = true) (B : Blt X.mg) (hg : Gl X "range") (hs : starEach [a] X.env = [(false, eval a X.env)]) (q : RA X [a] σ H fun x H1 => ForR1 X tg body nx rt' σ x H1) : RS X (.For tg (.Call (.Name "range" p) [a] [] p') body [] pos) ⟨nx, rt', bk, ct⟩ σ H :=
  s_forI (fun _ => rfl) hp hc (pi_range1 hg B.range (ra [a]) hs) q
theorem s_forR2 {p' : Pos} (hp : PassesOwn (model X.prog X.w) X.A X.env X.xe) (hc : X.calm = true) (B : Blt X.mg) (hg : Gl X "range") (hs : starEach [a, b] X.env = [(false, eval a X.env), (false, eval b X.env)]) (hs2 : starEach [b] X.env = [(false, eval b X.env)])
    (q : RA X [a, b] σ H fun x H1 => ForR2 X tg body nx rt' σ x H1) : RS X (.For tg (.Call (.Name "range" p) [a, b] [] p') body [] pos) ⟨nx, rt', bk, ct⟩ σ H :=
  s_forI (fun _ => rfl) hp hc (pi_range2 hg B.range (ra [a, b]) hs hs2) q
theorem forL {a : Addr} {xs : List V} (h : SqL X.K H a xs) (Pv : Nat → St → Hp → Prop) (h0 : Pv 0 σ H) (hl : ∀ i σ H, i ≤ xs.length → Pv i σ H → SqL X.K H a xs)
    (hs : ∀ i x σ H, xs[i]? = some x → Pv i σ H → RG X tg x σ H fun σ2 H2 => RSs X body ⟨Pv (i + 1), rt', nx, Pv (i + 1)⟩ σ2 H2) (hd : ∀ σ H, Pv xs.length σ H → nx σ H) : ForL X tg body nx rt' σ (.ref a) H :=
  ⟨a, rfl, ⟨xs, h⟩, for_list (D := ⟨nx, rt', nx, nx⟩) (g := RG X tg) (tb := RSs X body) Pv h0 hl hs hd⟩
theorem forT {a : Addr} {xs : List V} (h : SqT X.K H a xs) (Pv : Nat → St → Hp → Prop) (h0 : Pv 0 σ H) (hl : ∀ i σ H, i ≤ xs.length → Pv i σ H → SqT X.K H a xs)
    (hs : ∀ i x σ H, xs[i]? = some x → Pv i σ H → RG X tg x σ H fun σ2 H2 => RSs X body ⟨Pv (i + 1), rt', nx, Pv (i + 1)⟩ σ2 H2) (hd : ∀ σ H, Pv xs.length σ H → nx σ H) : ForT X tg body nx rt' σ (.ref a) H :=
  ⟨a, rfl, ⟨xs, h⟩, for_tup (D := ⟨nx, rt', nx, nx⟩) (g := RG X tg) (tb := RSs X body) Pv h0 hl hs hd⟩
theorem forR1 {j : Int} (hj : -(2 ^ 62) ≤ j ∧ j < 2 ^ 62) (Pv : Nat → St → Hp → Prop) (h0 : Pv 0 σ H)
    (hs : ∀ (i : Nat) σ H, (i : Int) < j → Pv i σ H → RG X tg (.int (i : Int)) σ H fun σ2 H2 => RSs X body ⟨Pv (i + 1), rt', nx, Pv (i + 1)⟩ σ2 H2) (hd : ∀ σ H, Pv j.toNat σ H → nx σ H) : ForR1 X tg body nx rt' σ [.int j] H :=
  ⟨j, rfl, hj.1, hj.2, for_range (lo := 0) (n := j.toNat) (D := ⟨nx, rt', nx, nx⟩) (g := RG X tg) (tb := RSs X body) Pv h0 (fun i σ H hi p => by
    have e : (0 : Int) + (i : Int) = (i : Int) := Int.zero_add _
    rw [e]
    exact hs i σ H (by omega) p) hd⟩
theorem forR2 {lo j : Int} (hj : -(2 ^ 62) ≤ lo ∧ lo < 2 ^ 62 ∧ -(2 ^ 62) ≤ j ∧ j < 2 ^ 62) (Pv : Nat → St → Hp → Prop) (h0 : Pv 0 σ H)
    (hs : ∀ (i : Nat) σ H, lo + (i : Int) < j → Pv i σ H → RG X tg (.int (lo + (i : Int))) σ H fun σ2 H2 => RSs X body ⟨Pv (i + 1), rt', nx, Pv (i + 1)⟩ σ2 H2) (hd : ∀ σ H, Pv (j - lo).toNat σ H → nx σ H) : ForR2 X tg body nx rt' σ [.int lo, .int j] H :=
  ⟨lo, j, rfl, hj, for_range (lo := lo) (n := (j - lo).toNat) (D := ⟨nx, rt', nx, nx⟩) (g := RG X tg) (tb := RSs X body) Pv h0 (fun i σ H hi p => hs i σ H (by omega) p) hd⟩
theorem s_while {W : St → Hp → Prop} (μ : St → Hp → Nat) (hp : PassesOwn (model X.prog X.w) X.A X.env X.xe) (h0 : W σ H)
    (hs : ∀ σ H, W σ H → RT X c σ H fun b H1 => if b = true then RSs X body ⟨fun σ' H' => W σ' H' ∧ μ σ' H' < μ σ H, rt', nx, fun σ' H' => W σ' H' ∧ μ σ' H' < μ σ H⟩ σ H1 else nx σ H1) : RS X (.While c body [] pos) ⟨nx, rt', bk, ct⟩ σ H := by
  refine rs_of (ps_while hp (rt c) (rss body)) ?_
  refine ⟨fun m σ H => m = μ σ H ∧ W σ H, ⟨_, rfl, h0⟩, ?_⟩
  rintro m σ H ⟨rfl, hw⟩
  intro pins s I
  refine thn (hs σ H hw pins s I) fun b s' ⟨H1, I1, q⟩ => ⟨H1, I1, ?_⟩
  cases b with
  | true => exact ⟨_, fun σ' H' ⟨p', l⟩ => ⟨_, l, rfl, p'⟩, q⟩
  | false => exact q

/-! ### list comprehensions, one clause, a name for a target -/
def blkN (N : List Str) (sc scope : Scope) (ns : List Str) : Bool :=
  (match scope.kind with | .function => true | _ => false) && (scope.names.all fun y => decide (scope.names.lookup y.1 = some y.2)) && (ns.all fun x => N.contains x) &&
    (scope.names.all fun y => match y.2 with
      | .free => (match sc.names.lookup y.1 with | some .cell => true | some .free => true | _ => false)
      | .local => decide (y.1 ∈ ns) || decide (y.1 ∉ N)
      | .cell => decide (y.1 ∈ ns) || decide (y.1 ∉ N)
      | _ => true)
theorem blkOk_of {N : List Str} {sc scope : Scope} {own : List (Str × Nat)} (ho : ∀ p ∈ own, N[p.2]? = some p.1) (h : blkN N sc scope (own.map (·.1)) = true) : BlkOk N sc scope own := by
  refine blkOk_by ?_
  unfold blkN at h
  unfold blkC
  simp only [Bool.and_eq_true] at h ⊢
  refine ⟨⟨h.1.1, ?_⟩, h.2⟩
  simp only [List.all_eq_true, decide_eq_true_eq]
  exact ho
/-- a turn of a comprehension, in the block's own context -/
def LcTest (X : Cx) (scope : Scope) (ifs : List Expr) (σ : St) (H : Hp) (k : Bool → Hp → Prop) : Prop :=
  match ifs with
  | [] => k true H
  | [c] => ∀ (s : Shared) (H0 : Hp) (C : Addr) (cl : List (Str × Addr)) (fp : List Addr), RT (X.blk s H0 scope (compEnvC scope cl C X.env) fp) c σ H k
  | _ => False
def LcElt (X : Cx) (scope : Scope) (elt : Expr) (σ : St) (H : Hp) (Q : VK) : Prop :=
  ∀ (s : Shared) (H0 : Hp) (C : Addr) (cl : List (Str × Addr)) (fp : List Addr), RE (X.blk s H0 scope (compEnvC scope cl C X.env) fp) elt σ H Q
def LcTg (X : Cx) (scope : Scope) (tg : Expr) : TG := fun v σ H Q => ∀ (s : Shared) (H0 : Hp) (C : Addr) (cl : List (Str × Addr)) (fp : List Addr), RG (X.blk s H0 scope (compEnvC scope cl C X.env) fp) tg v σ H Q
theorem pts_all {X : Cx} {scope : Scope} {ifs : List Expr} (hl : ifs.length ≤ 1) (s : Shared) (H0 : Hp) (C : Addr) (cl : List (Str × Addr)) (fp : List Addr) :
    PTs (X.blk s H0 scope (compEnvC scope cl C X.env) fp) ifs (fun σ H k => LcTest X scope ifs σ H k) := by
  match ifs, hl with
  | [], _ => exact pts_nil
  | [c], _ =>
    refine pts_one ⟨fun pins s' σ H Q I h => h s H0 C cl fp pins s' I⟩
/-- the steps: P n acc H: behind n items, acc made -/
def LcStep (X : Cx) (scope : Scope) (ifs : List Expr) (elt : Expr) (D : Addr) (P : List V → Hp → Prop) (σ : St) (H : Hp) : Prop :=
  LcTest X scope ifs σ H fun b H3 => if b = true then LcElt X scope elt σ H3 fun y H4 => ∃ acc, H4 D = some (.lst acc) ∧ acc.length < sizeLine ∧ P (acc ++ [y]) (upd H4 D (.lst (acc ++ [y]))) else ∃ acc, H3 D = some (.lst acc) ∧ P acc H3
def LcJ (X : Cx) (scope : Scope) (tg : Expr) (ifs : List Expr) (elt : Expr) (σ : St) (vs : List Nat) (J : It) (H1 : Hp) (Q : VK) : Prop :=
  tLc (fun _ H R => R J H) (LcTg X scope tg) (fun σ H k => LcTest X scope ifs σ H k) (fun σ H Q => LcElt X scope elt σ H Q) vs σ H1 Q
theorem e_lcI {iter elt : Expr} {ifs : List Expr} {scope : Scope} {own : List (Str × Nat)} {wi : TI} (hc : X.calm = true) (hN : X.N.Nodup) (hi : PI X tg iter wi) (ok : BlkOk X.N X.env.scope scope own) (hl : ifs.length ≤ 1)
    (hs : ∀ x, foldedSetIterable iter X.env x = pure x) (q : wi σ H fun J H1 => LcJ X scope tg ifs elt σ (own.map (·.2)) J H1 Q) : RE X (.ListComp elt [⟨tg, iter, ifs, 0⟩] scope pos) σ H Q := by
  refine re_of (pe_lc (tg := tg) (g := LcTg X scope tg) (tt := fun σ H k => LcTest X scope ifs σ H k) (te := fun σ H Q => LcElt X scope elt σ H Q) hc hN hi ok ?_ ?_ ?_ hs) q
  · exact fun s H0 C cl fp => ⟨fun pins s' σ H v u Q I r h => h s H0 C cl fp pins s' u I r⟩
  · exact fun s H0 C cl fp => pts_all hl s H0 C cl fp
  · exact fun s H0 C cl fp => ⟨fun pins s' σ H Q I h => h s H0 C cl fp pins s' I⟩
/-- stored at once in a local name -/
theorem s_setLcI {y : Str} {py spos : Pos} {iter elt : Expr} {ifs : List Expr} {scope : Scope} {own : List (Str × Nat)} {wi : TI} (hc : X.calm = true) (hN : X.N.Nodup) (hy : X.N.contains y = true) (hyl : X.env.scope.names.lookup y = some .local)
    (hsw : swapsWith (.ListComp elt [⟨tg, iter, ifs, 0⟩] scope pos) (some (.Name y py)) spos.line X.env = pure true) (hi : PI X tg iter wi) (ok : BlkOk X.N X.env.scope scope own) (hl : ifs.length ≤ 1)
    (hs : ∀ x, foldedSetIterable iter X.env x = pure x) (q : wi σ H fun J H1 => LcJ X scope tg ifs elt σ (own.map (·.2)) J H1 fun v H2 => nx (setN X.N σ y v) H2) : RS X (.Assign [.Name y py] (.ListComp elt [⟨tg, iter, ifs, 0⟩] scope pos) spos) ⟨nx, rt', bk, ct⟩ σ H := by
  obtain ⟨i, h⟩ := idx_of hy
  refine rs_of (ps_setLc (i := i) (tg := tg) (g := LcTg X scope tg) (tt := fun σ H k => LcTest X scope ifs σ H k) (te := fun σ H Q => LcElt X scope elt σ H Q) hc hN h hyl hsw hi ok ?_ ?_ ?_ hs) ?_
  · exact fun s H0 C cl fp => ⟨fun pins s' σ H v u Q I r h => h s H0 C cl fp pins s' u I r⟩
  · exact fun s H0 C cl fp => pts_all hl s H0 C cl fp
  · exact fun s H0 C cl fp => ⟨fun pins s' σ H Q I h => h s H0 C cl fp pins s' I⟩
  · have e1 : (fun v H2 => nx (setN X.N σ y v) H2) = fun v H2 => nx (σ.set i (some v)) H2 := by
      funext v H2
      rw [setN_eq h hN]
    rw [e1] at q
    exact q
theorem wipe1 {σ : St} {i : Nat} {v : V} : wipe ((wipe σ [i]).set i (some v)) [i] = wipe σ [i] := by
  show ((σ.set i none).set i (some v)).set i none = σ.set i none
  rw [List.set_set, List.set_set]
theorem set1 {σ : St} {i : Nat} {v : V} : (wipe σ [i]).set i (some v) = σ.set i (some v) := by
  show (σ.set i none).set i (some v) = σ.set i (some v)
  rw [List.set_set]

/-- one name k (slot i) -/
theorem lc_name_tg {scope : Scope} {k : Str} {pk : Pos} {i : Nat} {Qg : St → Hp → Prop} (hN : X.N.Nodup) (hk : X.N[i]? = some k) (hsc : ∀ (s : Shared) (H0 : Hp) (C : Addr) (cl : List (Str × Addr)) (fp : List Addr), Loc (X.blk s H0 scope (compEnvC scope cl C X.env) fp).env.scope k)
    (hfn : ∀ (s : Shared) (H0 : Hp) (C : Addr) (cl : List (Str × Addr)) (fp : List Addr), (X.blk s H0 scope (compEnvC scope cl C X.env) fp).fn k = true ∨ (X.blk s H0 scope (compEnvC scope cl C X.env) fp).env.scope.names.lookup k = some .local)
    (q : Qg (σ.set i (some v)) H) : LcTg X scope (.Name k pk) v σ H Qg := fun s H0 C cl fp => rg_of (pg_name (i := i) hN hk (hsc s H0 C cl fp) (hfn s H0 C cl fp)) q
/-- the turns of a comprehension over a name k, by an invariant over the turn, what is made, the heap -/
structure LcName (X : Cx) (scope : Scope) (k : Str) (i : Nat) : Prop where
  hk : X.N[i]? = some k
  loc : ∀ (s : Shared) (H0 : Hp) (C : Addr) (cl : List (Str × Addr)) (fp : List Addr), Loc (X.blk s H0 scope (compEnvC scope cl C X.env) fp).env.scope k
  fn : ∀ (s : Shared) (H0 : Hp) (C : Addr) (cl : List (Str × Addr)) (fp : List Addr), (X.blk s H0 scope (compEnvC scope cl C X.env) fp).fn k = true ∨ (X.blk s H0 scope (compEnvC scope cl C X.env) fp).env.scope.names.lookup k = some .local
def LcL (X : Cx) (scope : Scope) (tg : Expr) (ifs : List Expr) (elt : Expr) (σ : St) (vs : List Nat) (Q : VK) (x : V) (H1 : Hp) : Prop := ∃ a, x = .ref a ∧ (∃ xs, SqL X.K H1 a xs) ∧ LcJ X scope tg ifs elt σ vs (Itl X.K a) H1 Q
def LcT (X : Cx) (scope : Scope) (tg : Expr) (ifs : List Expr) (elt : Expr) (σ : St) (vs : List Nat) (Q : VK) (x : V) (H1 : Hp) : Prop := ∃ a, x = .ref a ∧ (∃ xs, SqT X.K H1 a xs) ∧ LcJ X scope tg ifs elt σ vs (Itt X.K a) H1 Q
def LcR1 (X : Cx) (scope : Scope) (tg : Expr) (ifs : List Expr) (elt : Expr) (σ : St) (vs : List Nat) (Q : VK) (xs : List V) (H1 : Hp) : Prop := ∃ j : Int, xs = [.int j] ∧ -(2 ^ 62) ≤ j ∧ j < 2 ^ 62 ∧ LcJ X scope tg ifs elt σ vs (Itr 0 j.toNat) H1 Q
def LcR2 (X : Cx) (scope : Scope) (tg : Expr) (ifs : List Expr) (elt : Expr) (σ : St) (vs : List Nat) (Q : VK) (xs : List V) (H1 : Hp) : Prop := ∃ i j : Int, xs = [.int i, .int j] ∧ (-(2 ^ 62) ≤ i ∧ i < 2 ^ 62 ∧ -(2 ^ 62) ≤ j ∧ j < 2 ^ 62) ∧ LcJ X scope tg ifs elt σ vs (Itr i (j - i).toNat) H1 Q
/-- what a turn asks -/
def LcTurn (X : Cx) (scope : Scope) (ifs : List Expr) (elt : Expr) (D : Addr) (P : List V → Hp → Prop) (σ : St) (H : Hp) : Prop := LcStep X scope ifs elt D P σ H
theorem lcJ_of {scope : Scope} {k : Str} {pk : Pos} {i : Nat} {ifs : List Expr} {elt : Expr} {J : It} {H1 : Hp} (hN : X.N.Nodup) (L : LcName X scope k i) (n : Nat) (item : Nat → V → Hp → Prop)
    (P : Addr → Nat → List V → Hp → Prop) (h0 : ∀ D, H1 D = none → P D 0 [] (upd H1 D (.lst [])))
    (hJ : ∀ D, H1 D = none → ∀ m acc H, P D m acc H → H D = some (.lst acc) → m ≤ n → (m = n → J.stop m H) ∧ (m < n → J.go m H ∧ ∀ x H', J.yld m H x H' → H' = H ∧ item m x H))
    (hs : ∀ D m acc x H, H1 D = none → m < n → P D m acc H → H D = some (.lst acc) → item m x H → LcTurn X scope ifs elt D (P D (m + 1)) (σ.set i (some x)) H)
    (hd : ∀ D acc H, H1 D = none → P D n acc H → H D = some (.lst acc) → Q (.ref D) H) : LcJ X scope (.Name k pk) ifs elt σ [i] J H1 Q := by
  intro D hD
  refine ⟨fun m z H => z = n - m ∧ m ≤ n ∧ ∃ acc, H D = some (.lst acc) ∧ P D m acc H, ⟨n, by simp, Nat.zero_le _, [], upd_same, h0 D hD⟩, ?_⟩
  rintro m z H ⟨rfl, hm, acc, ha, hp⟩
  obtain ⟨j1, j2⟩ := hJ D hD m acc H hp ha hm
  by_cases hlt : m < n
  · obtain ⟨g, y⟩ := j2 hlt
    refine .inr ⟨g, fun H => ∃ acc, H D = some (.lst acc) ∧ P D (m + 1) acc H, fun H' h' => ⟨n - (m + 1), by omega, rfl, hlt, h'⟩, fun x H' hy => ?_⟩
    obtain ⟨rfl, hi⟩ := y x H' hy
    refine lc_name_tg hN L.hk L.loc L.fn ⟨wipe1, ?_⟩
    rw [set1]
    have q := hs D m acc x H' hD hlt hp ha hi
    unfold LcTurn LcStep at q
    match ifs, q with
    | [], q => 
      show LcElt X scope elt _ _ _
      intro s H0 C cl fp pins s' I
      refine thn (q s H0 C cl fp pins s' I) fun u s2 ⟨v, H2, I2, r, acc', a1, a2, a3⟩ => ⟨v, H2, I2, r, acc', a1, a2, ⟨_, upd_same, a3⟩⟩
    | [c], q =>
      intro s H0 C cl fp pins s' I
      refine thn (q s H0 C cl fp pins s' I) fun b s2 ⟨H2, I2, a1⟩ => ⟨H2, I2, ?_⟩
      cases b with
      | false => exact a1
      | true =>
        have a1 : LcElt X scope elt _ H2 _ := a1
        show LcElt X scope elt _ H2 _
        intro s H0 C cl fp pins s' I
        refine thn (a1 s H0 C cl fp pins s' I) fun u s2 ⟨v, H2, I2, r, acc', a1, a2, a3⟩ => ⟨v, H2, I2, r, acc', a1, a2, ⟨_, upd_same, a3⟩⟩
  · have e : m = n := by omega
    subst e
    exact .inl ⟨j1 rfl, hd D acc H hD hp ha⟩
theorem lcL {scope : Scope} {k : Str} {pk : Pos} {i : Nat} {ifs : List Expr} {elt : Expr} {a : Addr} {xs : List V} (hN : X.N.Nodup) (L : LcName X scope k i) (hx : SqL X.K H a xs)
    (P : Addr → Nat → List V → Hp → Prop) (h0 : ∀ D, H D = none → P D 0 [] (upd H D (.lst [])))
    (hl : ∀ D m acc H', H D = none → P D m acc H' → SqL X.K H' a xs)
    (hs : ∀ D m acc x H', H D = none → xs[m]? = some x → P D m acc H' → H' D = some (.lst acc) → LcTurn X scope ifs elt D (P D (m + 1)) (setN X.N σ k x) H')
    (hd : ∀ D acc H', H D = none → P D xs.length acc H' → H' D = some (.lst acc) → Q (.ref D) H') : LcL X scope (.Name k pk) ifs elt σ [i] Q (.ref a) H := by
  refine ⟨a, rfl, ⟨xs, hx⟩, lcJ_of hN L xs.length (fun m x _ => xs[m]? = some x) P h0 (fun D hD m acc H' p _ hm => ?_) (fun D m acc x H' hD _ p e hi => setN_eq L.hk hN ▸ hs D m acc x H' hD hi p e) hd⟩
  have q := hl D m acc H' hD p
  refine ⟨fun e => ⟨xs, q, by omega⟩, fun h => ⟨⟨xs, xs[m], q, by simp [h]⟩, fun x H2 hy => ?_⟩⟩
  obtain ⟨rfl, f⟩ := hy
  exact ⟨rfl, f _ q⟩
theorem lcT {scope : Scope} {k : Str} {pk : Pos} {i : Nat} {ifs : List Expr} {elt : Expr} {a : Addr} {xs : List V} (hN : X.N.Nodup) (L : LcName X scope k i) (hx : SqT X.K H a xs)
    (P : Addr → Nat → List V → Hp → Prop) (h0 : ∀ D, H D = none → P D 0 [] (upd H D (.lst [])))
    (hl : ∀ D m acc H', H D = none → P D m acc H' → SqT X.K H' a xs)
    (hs : ∀ D m acc x H', H D = none → xs[m]? = some x → P D m acc H' → H' D = some (.lst acc) → LcTurn X scope ifs elt D (P D (m + 1)) (setN X.N σ k x) H')
    (hd : ∀ D acc H', H D = none → P D xs.length acc H' → H' D = some (.lst acc) → Q (.ref D) H') : LcT X scope (.Name k pk) ifs elt σ [i] Q (.ref a) H := by
  refine ⟨a, rfl, ⟨xs, hx⟩, lcJ_of hN L xs.length (fun m x _ => xs[m]? = some x) P h0 (fun D hD m acc H' p _ hm => ?_) (fun D m acc x H' hD _ p e hi => setN_eq L.hk hN ▸ hs D m acc x H' hD hi p e) hd⟩
  have q := hl D m acc H' hD p
  refine ⟨fun e => ⟨xs, q, by omega⟩, fun h => ⟨⟨xs, xs[m], q, by simp [h]⟩, fun x H2 hy => ?_⟩⟩
  obtain ⟨rfl, f⟩ := hy
  exact ⟨rfl, f _ q⟩
theorem lcR1 {scope : Scope} {k : Str} {pk : Pos} {i : Nat} {ifs : List Expr} {elt : Expr} {j : Int} (hN : X.N.Nodup) (L : LcName X scope k i) (hj : -(2 ^ 62) ≤ j ∧ j < 2 ^ 62)
    (P : Addr → Nat → List V → Hp → Prop) (h0 : ∀ D, H D = none → P D 0 [] (upd H D (.lst [])))
    (hs : ∀ D (m : Nat) acc H', H D = none → (m : Int) < j → P D m acc H' → H' D = some (.lst acc) → LcTurn X scope ifs elt D (P D (m + 1)) (setN X.N σ k (.int (m : Int))) H')
    (hd : ∀ D acc H', H D = none → P D j.toNat acc H' → H' D = some (.lst acc) → Q (.ref D) H') : LcR1 X scope (.Name k pk) ifs elt σ [i] Q [.int j] H := by
  refine ⟨j, rfl, hj.1, hj.2, lcJ_of hN L j.toNat (fun m x _ => x = .int (m : Int)) P h0 (fun D hD m acc H' p _ hm => ?_) (fun D m acc x H' hD hm p e hi => ?_) hd⟩
  · refine ⟨fun e => Nat.le_of_eq e.symm, fun h => ⟨h, fun x H2 hy => ?_⟩⟩
    obtain ⟨rfl, f⟩ := hy
    exact ⟨rfl, by rw [f, Int.zero_add]⟩
  · subst hi
    exact setN_eq L.hk hN ▸ hs D m acc H' hD (by omega) p e
theorem lcR2 {scope : Scope} {k : Str} {pk : Pos} {i : Nat} {ifs : List Expr} {elt : Expr} {lo j : Int} (hN : X.N.Nodup) (L : LcName X scope k i) (hj : -(2 ^ 62) ≤ lo ∧ lo < 2 ^ 62 ∧ -(2 ^ 62) ≤ j ∧ j < 2 ^ 62)
    (P : Addr → Nat → List V → Hp → Prop) (h0 : ∀ D, H D = none → P D 0 [] (upd H D (.lst [])))
    (hs : ∀ D (m : Nat) acc H', H D = none → lo + (m : Int) < j → P D m acc H' → H' D = some (.lst acc) → LcTurn X scope ifs elt D (P D (m + 1)) (setN X.N σ k (.int (lo + (m : Int)))) H')
    (hd : ∀ D acc H', H D = none → P D (j - lo).toNat acc H' → H' D = some (.lst acc) → Q (.ref D) H') : LcR2 X scope (.Name k pk) ifs elt σ [i] Q [.int lo, .int j] H := by
  refine ⟨lo, j, rfl, hj, lcJ_of hN L (j - lo).toNat (fun m x _ => x = .int (lo + (m : Int))) P h0 (fun D hD m acc H' p _ hm => ?_) (fun D m acc x H' hD hm p e hi => ?_) hd⟩
  · refine ⟨fun e => Nat.le_of_eq e.symm, fun h => ⟨h, fun x H2 hy => ?_⟩⟩
    obtain ⟨rfl, f⟩ := hy
    exact ⟨rfl, f⟩
  · subst hi
    exact setN_eq L.hk hN ▸ hs D m acc H' hD (by omega) p e
theorem own1 {N : List Str} {k : Str} {i : Nat} (h : N[i]? = some k) : ∀ p ∈ [(k, i)], N[p.2]? = some p.1 := by
  intro p hp
  rw [List.mem_singleton] at hp
  subst hp
  exact h
theorem e_lcL {iter elt : Expr} {ifs : List Expr} {scope : Scope} {k : Str} {i : Nat} {pk : Pos} (hk : X.N[i]? = some k) (hc : X.calm = true) (hN : X.N.Nodup) (ok : blkN X.N X.env.scope scope [k] = true) (hl : ifs.length ≤ 1)
    (hs : ∀ x, foldedSetIterable iter X.env x = pure x) (q : RE X iter σ H fun x H1 => LcL X scope (.Name k pk) ifs elt σ [i] Q x H1) : RE X (.ListComp elt [⟨.Name k pk, iter, ifs, 0⟩] scope pos) σ H Q :=
  e_lcI (own := [(k, i)]) hc hN (pi_list (re iter)) (blkOk_of (own1 hk) ok) hl hs q
theorem e_lcT {iter elt : Expr} {ifs : List Expr} {scope : Scope} {k : Str} {i : Nat} {pk : Pos} (hk : X.N[i]? = some k) (hc : X.calm = true) (hN : X.N.Nodup) (ok : blkN X.N X.env.scope scope [k] = true) (hl : ifs.length ≤ 1)
    (hs : ∀ x, foldedSetIterable iter X.env x = pure x) (q : RE X iter σ H fun x H1 => LcT X scope (.Name k pk) ifs elt σ [i] Q x H1) : RE X (.ListComp elt [⟨.Name k pk, iter, ifs, 0⟩] scope pos) σ H Q :=
  e_lcI (own := [(k, i)]) hc hN (pi_tup (re iter)) (blkOk_of (own1 hk) ok) hl hs q
theorem e_lcR1 {elt : Expr} {ifs : List Expr} {scope : Scope} {k : Str} {i : Nat} {pk p' : Pos} (hk : X.N[i]? = some k) (hc : X.calm = true) (hN : X.N.Nodup) (ok : blkN X.N X.env.scope scope [k] = true) (hl : ifs.length ≤ 1)
    (B : Blt X.mg) (hg : Gl X "range") (hs : starEach [a] X.env = [(false, eval a X.env)]) (q : RA X [a] σ H fun x H1 => LcR1 X scope (.Name k pk) ifs elt σ [i] Q x H1) : RE X (.ListComp elt [⟨.Name k pk, .Call (.Name "range" p) [a] [] p', ifs, 0⟩] scope pos) σ H Q :=
  e_lcI (own := [(k, i)]) hc hN (pi_range1 hg B.range (ra [a]) hs) (blkOk_of (own1 hk) ok) hl (fun _ => rfl) q
theorem e_lcR2 {elt : Expr} {ifs : List Expr} {scope : Scope} {k : Str} {i : Nat} {pk p' : Pos} (hk : X.N[i]? = some k) (hc : X.calm = true) (hN : X.N.Nodup) (ok : blkN X.N X.env.scope scope [k] = true) (hl : ifs.length ≤ 1)
    (B : Blt X.mg) (hg : Gl X "range") (hs : starEach [a, b] X.env = [(false, eval a X.env), (false, eval b X.env)]) (hs2 : starEach [b] X.env = [(false, eval b X.env)]) (q : RA X [a, b] σ H fun x H1 => LcR2 X scope (.Name k pk) ifs elt σ [i] Q x H1) : RE X (.ListComp elt [⟨.Name k pk, .Call (.Name "range" p) [a, b] [] p', ifs, 0⟩] scope pos) σ H Q :=
  e_lcI (own := [(k, i)]) hc hN (pi_range2 hg B.range (ra [a, b]) hs hs2) (blkOk_of (own1 hk) ok) hl (fun _ => rfl) q
theorem turn0 {scope : Scope} {elt : Expr} {D : Addr} {P : List V → Hp → Prop} (q : ∀ (s : Shared) (H0 : Hp) (C : Addr) (cl : List (Str × Addr)) (fp : List Addr), RE (X.blk s H0 scope (compEnvC scope cl C X.env) fp) elt σ H fun y H4 => ∃ acc, H4 D = some (.lst acc) ∧ acc.length < sizeLine ∧ P (acc ++ [y]) (upd H4 D (.lst (acc ++ [y])))) :
    LcTurn X scope [] elt D P σ H := by
  unfold LcTurn LcStep LcTest
  exact iteT q
theorem turn1 {scope : Scope} {elt : Expr} {D : Addr} {P : List V → Hp → Prop} (q : ∀ (s : Shared) (H0 : Hp) (C : Addr) (cl : List (Str × Addr)) (fp : List Addr), RT (X.blk s H0 scope (compEnvC scope cl C X.env) fp) c σ H fun b H3 => if b = true then
      (∀ (s : Shared) (H0 : Hp) (C : Addr) (cl : List (Str × Addr)) (fp : List Addr), RE (X.blk s H0 scope (compEnvC scope cl C X.env) fp) elt σ H3 fun y H4 => ∃ acc, H4 D = some (.lst acc) ∧ acc.length < sizeLine ∧ P (acc ++ [y]) (upd H4 D (.lst (acc ++ [y])))) else ∃ acc, H3 D = some (.lst acc) ∧ P acc H3) :
    LcTurn X scope [c] elt D P σ H := q
end
end Sx

end
section -- So
set_option maxRecDepth 100000
set_option maxHeartbeats 4000000
namespace Sx
open PySem PySem.Spec L2
open PyProof.Rows hiding St

/-! ### a method of a class of the text -/
structure MethOk (P : Program) (w : World) (K : PySem.W.Frag) (mg : Str → Option Value) (base : Heap) (C : Addr) (m : Str) (k : Nat) (ps : List Str) (sp : Sp) : Prop where
  ex : ∃ (f : Addr) (fd : FuncData), FnOk P w K mg base CX0 k f fd ps sp ∧ Meth K C m f ∧ Binds K fd ps []

section
variable {X : Cx} {C a b dx dx' f : Addr} {fs fs' : List (Str × V)} {m : Str} {k : Nat} {ps : List Str} {sp : Sp} {H : Hp} {Q : VK} {fd : FuncData}

theorem rr (a : Addr) : RelV (V.ref a) (Value.ref a) := rfl
theorem ri (i : Int) (t : Tok) : RelV (V.int i) (Value.int i t) := ⟨t, rfl⟩
theorem run_plain {pins : List (Addr × Obj)} {σ : St} {s : Shared} {us : List Value} {vs : List V} (F : FnOk X.prog X.w X.K X.mg X.base CX0 k f fd ps sp) (hr : Room k X.A) (hb : Binds X.K fd ps []) (I : Inv X pins σ H s) (r : Vals vs us) (h : sp vs H Q E0) :
    wpAny (model X.prog X.w) X.A (call (.ref f) us) (EP X pins σ Q) X.xe s := run_fn F hr hb .nil pass0 I r (by rw [List.append_nil]; exact h)
theorem run_in1 {pins : List (Addr × Obj)} {σ : St} {s : Shared} {us : List Value} {vs : List V} (F : FnOk X.prog X.w X.K X.mg X.base CX0 k f fd ps sp) (hr : Room (k + 1) X.A) (hb : Binds X.K fd ps []) (I : Inv X pins σ H s) (r : Vals vs us) (h : sp vs H Q E0) :
    wpAny (model X.prog X.w) X.A.in1 (call (.ref f) us) (EP X pins σ Q) X.xe s := by
  have hl : (us ++ []).length = ps.length := by rw [List.append_nil, ← r.length]; exact F.len _ _ _ _ h
  have hl' := hl
  rw [List.append_nil] at hl'
  have hb' := hb s us I.kIn hl
  rw [List.append_nil] at hb'
  refine wpAny_call (codeAny_mono (F.run X.A.in1 X.stack s H ⟨us, []⟩ us vs Q E0 hr.in1 I.env0.in1 hb' r h) fun r s' hq => ?_)
  cases r with
  | error e => exact False.elim hq
  | ok fl =>
    cases fl with
    | ret u => exact I.after hq
    | next => exact False.elim hq
    | brk => exact False.elim hq
    | cont => exact False.elim hq
theorem run_in2 {pins : List (Addr × Obj)} {σ : St} {s : Shared} {us : List Value} {vs : List V} (F : FnOk X.prog X.w X.K X.mg X.base CX0 k f fd ps sp) (hr : Room (k + 2) X.A) (hb : Binds X.K fd ps []) (I : Inv X pins σ H s) (r : Vals vs us) (h : sp vs H Q E0) :
    wpAny (model X.prog X.w) X.A.in1.in1 (call (.ref f) us) (EP X pins σ Q) X.xe s := by
  have hl : (us ++ []).length = ps.length := by rw [List.append_nil, ← r.length]; exact F.len _ _ _ _ h
  have hl' := hl
  rw [List.append_nil] at hl'
  have hb' := hb s us I.kIn hl
  rw [List.append_nil] at hb'
  refine wpAny_call (codeAny_mono (F.run X.A.in1.in1 X.stack s H ⟨us, []⟩ us vs Q E0 hr.in1.in1 I.env0.in1.in1 hb' r h) fun r s' hq => ?_)
  cases r with
  | error e => exact False.elim hq
  | ok fl =>
    cases fl with
    | ret u => exact I.after hq
    | next => exact False.elim hq
    | brk => exact False.elim hq
    | cont => exact False.elim hq
theorem back {pins : List (Addr × Obj)} {σ : St} {u : Value} {s : Shared} (h : EP X pins σ Q u s) : PySem.W.CmpBack (EP X pins σ Q) u s := by
  obtain ⟨v, H', I, r, q⟩ := h
  cases v with
  | non => cases r; exact ⟨.non, H', I, rfl, q⟩
  | bl b => cases r; exact ⟨.bl b, H', I, rfl, q⟩
  | int i => obtain ⟨t, rfl⟩ := r; exact ⟨.int i, H', I, ⟨t, rfl⟩, q⟩
  | str x => obtain ⟨t, rfl⟩ := r; exact ⟨.str x, H', I, ⟨t, rfl⟩, q⟩
  | byt x => obtain ⟨t, rfl⟩ := r; exact ⟨.byt x, H', I, ⟨t, rfl⟩, q⟩
  | flt x => obtain ⟨t, rfl⟩ := r; exact ⟨.flt x, H', I, ⟨t, rfl⟩, q⟩
  | ref x => cases r; exact ⟨.ref x, H', I, rfl, q⟩
  | ty n => cases r; exact ⟨.ty n, H', I, rfl, q⟩

/-- what the operators of a class want of it -/
structure Ops (K : PySem.W.Frag) (C : Addr) : Prop where
  first : PySem.W.selfFirst K C = true
theorem typ_ins {pins : List (Addr × Obj)} {σ : St} {s : Shared} (I : Inv X pins σ H s) (ea : H a = some (.ins C dx fs)) : ∃ od, PySem.W.InstAt s.heap a (PySem.W.instObj C dx) C (some od) := by
  obtain ⟨mA, O, _⟩ := ins_get I.hok ea
  obtain ⟨od, J, _⟩ := O.look
  exact ⟨od, J⟩
/-- a op b, two objects of the class -/
theorem o_own {op : Operator} (O : Ops X.K C) (ea : H a = some (.ins C dx fs)) (eb : H b = some (.ins C dx' fs')) (M : MethOk X.prog X.w X.K X.mg X.base C (PySem.dunder op.info.2) k ps sp) (hr : Room k X.A) (q : sp [.ref a, .ref b] H Q E0) : RO X (binaryOp op) (.ref a) (.ref b) H Q := by
  intro pins s σ v u I r1 r2
  cases r1
  cases r2
  obtain ⟨f, fd, F, hm, hb⟩ := M.ex
  obtain ⟨m', Fr⟩ := I.fr
  obtain ⟨od, J⟩ := typ_ins I ea
  obtain ⟨od', J'⟩ := typ_ins I eb
  exact PySem.W.binop_K Fr I.ok.mod.kin J J'.type O.first hm.at_ hm.fn (thn (run_plain F hr hb I (.cons (rr a) (.cons (rr b) .nil)) q) fun u s' h => back h)
/-- a op i, i an int -/
theorem o_ownI {op : Operator} {i : Int} {fo ro : Option Value} (O : Ops X.K C) (ea : H a = some (.ins C dx fs)) (M : MethOk X.prog X.w X.K X.mg X.base C (PySem.dunder op.info.2) k ps sp) (hr : Room k X.A)
    (h0 : PySem.W.findIn X.K (.ref C) (dunderR op.info.2) = some none) (h1 : PySem.W.findIn X.K (.type "int") (PySem.dunder op.info.2) = some fo) (h2 : PySem.W.findIn X.K (.type "int") (dunderR op.info.2) = some ro) (h3 : PySem.W.subIn X.K (.type "int") (.ref C) = some false)
    (q : sp [.ref a, .int i] H Q E0) : RO X (binaryOp op) (.ref a) (.int i) H Q := by
  intro pins s σ v u I r1 r2
  cases r1
  obtain ⟨t, rfl⟩ := r2
  obtain ⟨f, fd, F, hm, hb⟩ := M.ex
  obtain ⟨m', Fr⟩ := I.fr
  obtain ⟨od, J⟩ := typ_ins I ea
  exact PySem.W.ksp_binT (T := "int") Fr I.ok.mod.kin J rfl O.first hm.at_ hm.fn h0 (.inl rfl) h1 h2 h3 (thn (run_plain F hr hb I (.cons (rr a) (.cons (ri _ _) .nil)) q) fun u s' h => back h)
theorem u_ownNeg (ea : H a = some (.ins C dx fs)) (M : MethOk X.prog X.w X.K X.mg X.base C "__neg__" k ps sp) (hr : Room k X.A) (q : sp [.ref a] H Q E0) : RU X (unaryOp .USub) (.ref a) H Q := by
  intro pins s σ v I r1
  cases r1
  obtain ⟨f, fd, F, hm, hb⟩ := M.ex
  obtain ⟨m', Fr⟩ := I.fr
  obtain ⟨od, J⟩ := typ_ins I ea
  exact PySem.W.ksp_neg Fr I.ok.mod.kin J hm.at_ hm.fn (run_plain F hr hb I (.cons (rr a) .nil) q)
theorem u_ownInv (ea : H a = some (.ins C dx fs)) (M : MethOk X.prog X.w X.K X.mg X.base C "__invert__" k ps sp) (hr : Room k X.A) (q : sp [.ref a] H Q E0) : RU X (unaryOp .Invert) (.ref a) H Q := by
  intro pins s σ v I r1
  cases r1
  obtain ⟨f, fd, F, hm, hb⟩ := M.ex
  obtain ⟨m', Fr⟩ := I.fr
  obtain ⟨od, J⟩ := typ_ins I ea
  exact PySem.W.ksp_inv Fr I.ok.mod.kin J hm.at_ hm.fn (run_plain F hr hb I (.cons (rr a) .nil) q)
/-- a == b by the class's __eq__ -/
theorem c_ownEq (O : Ops X.K C) (ea : H a = some (.ins C dx fs)) (eb : H b = some (.ins C dx' fs')) (M : MethOk X.prog X.w X.K X.mg X.base C "__eq__" k ps sp) (hr : Room k X.A) (q : sp [.ref a, .ref b] H Q E0) : RO X (compareOp .Eq) (.ref a) (.ref b) H Q := by
  intro pins s σ v u I r1 r2
  cases r1
  cases r2
  obtain ⟨f, fd, F, hm, hb⟩ := M.ex
  obtain ⟨m', Fr⟩ := I.fr
  obtain ⟨od, J⟩ := typ_ins I ea
  obtain ⟨od', J'⟩ := typ_ins I eb
  refine PySem.W.cmp_ofEq (PySem.W.cmp_K (tb := .ref C) hr.units0 Fr I.ok.mod.kin J J'.type ?_ hm.at_ hm.fn (thn (run_plain F hr hb I (.cons (rr a) (.cons (rr b) .nil)) q) fun u s' h => back h))
  show (_ == _ || _) = true
  rw [beq_self_eq_true, Bool.true_or]
section
variable {prog : Program} {w : World} {A : Around} {E : Value → Shared → Prop} {s : Shared} {K : PySem.W.Frag} {x g : Addr} {ox : Obj} {od : Option Obj} {v : Value}
theorem obj_ne_own {Q : Fin → Shared → Prop} (hu : A.units < cLine) (Xk : K.In s.heap) (J : PySem.W.InstAt s.heap x ox C od) (hs : PySem.W.findIn K (.ref C) "__eq__" = some (some (.ref g))) (hf : PySem.W.isFn K (.ref g) = true)
    (h : wpAny (model prog w) A (call (.ref g) [.ref x, v]) (fun r s' => ∃ b, r = .bool b ∧ Q (.done (.ret (.bool (!b)))) s') E s) : wpAny (model prog w) A (Builtin.«object.__ne__» ⟨[.ref x, v], []⟩) Q E s := by
  unfold Builtin.«object.__ne__»
  repeat (first
    | with_reducible refine wpAny_cRoomFor hu ?_
    | (refine wpAny_bind (m := callSpecialIfBound? (.ref x) (Str.ofString "__eq__") [v]) (PySem.W.ifBound_K Xk J hs hf (wpAny_mono h (fun r s' hr => by
          obtain ⟨b, rfl, q⟩ := hr
          repeat (first | exact q | exact wpAny_pure q | exact wpAny_truthy_bool q | (refine wpAny_bind (m := truthy (.bool _)) (wpAny_truthy_bool ?_)) | wp_step)) fun _ _ e => e)))
    | wp_step)
theorem bound_obj_ne {Q : Option Value → Shared → Prop} (Xk : K.In s.heap) (J : PySem.W.InstAt s.heap x ox C od) (hs : PySem.W.findIn K (.ref C) "__ne__" = some (some (.builtin "object.__ne__")))
    (h : wpAny (model prog w) A (call (.builtin "object.__ne__") [.ref x, v]) (fun r => Q (some r)) E s) : wpAny (model prog w) A (callSpecialIfBound? (.ref x) "__ne__" [v]) Q E s := by
  simp only [callSpecialIfBound?, bindSpecialIfBound?]
  refine wpAny_holding (wpAny_bind (wpAny_bind (wpAny_bind (J.type.here ((PySem.W.looks_findIn Xk hs).here ?_)))))
  simp only [PySem.F.cmp_object.ne.bind]
  refine wpAny_bind (wpAny_askSetting (wpAny_ite ?_))
  have fin : wpAny (model prog w) A (call (.builtin "object.__ne__") ([.ref x] ++ [v]) >>= fun v => pure (some v)) Q E s := wpAny_bind (wpAny_mono h (fun v s' h' => wpAny_pure h') fun _ _ h' => h')
  split
  · exact wpAny_bind (wpAny_pure (wpAny_pure fin))
  · exact wpAny_tryCatch (wpAny_bind (wpAny_pure (wpAny_pure fin)))
theorem ne_own {Q : Value → Shared → Prop} {h₀ : Heap} {L : Addr} {mL : Str → Option Value} (hu : A.units + 1 < cLine) (F : Fr h₀ L s.heap mL) (X₀ : K.In h₀) (J : PySem.W.InstAt s.heap x ox C od) (hb : PySem.W.Looks (model prog w) s.heap (typeOf v) (.ref C))
    (hn : PySem.W.findIn K (.ref C) "__ne__" = some (some (.builtin "object.__ne__"))) (ho : PySem.W.subIn K (.ref C) (.type "object") = some true) (hs : PySem.W.findIn K (.ref C) "__eq__" = some (some (.ref g))) (hf : PySem.W.isFn K (.ref g) = true)
    (h : wpAny (model prog w) A.in1 (call (.ref g) [.ref x, v]) (fun r s' => ∃ b, r = .bool b ∧ Q (.bool (!b)) s') E s) : wpAny (model prog w) A (richCompare .NotEq (.ref x) v) Q E s := by
  have Xk := X₀.keeps F.keep
  have one : wpAny (model prog w) A (tryCompare (.ref x) "__ne__" v) (fun r s' => ∃ z, r = some z ∧ Q z s') E s := by
    unfold tryCompare
    refine wpAny_bind (bound_obj_ne Xk J hn (wpAny_call (codeAny_call_builtin PySem.F.cmp_object.ne.plain PySem.F.cmpEntry_ne
      (PySem.W.check_slot PySem.F.cmpKind_ne PySem.F.cmpSplit_ne (J.type.andThen (PySem.W.looks_subIn Xk ho)) (PySem.F.cmpArgs_ne _ _)
        (obj_ne_own (A := A.in1) hu Xk J hs hf (wpAny_mono h (fun r s' hr => ?_) fun _ _ e => e))))))
    obtain ⟨b, rfl, q⟩ := hr
    first | exact ⟨b, rfl, wpAny_pure ⟨_, rfl, q⟩⟩ | exact ⟨b, rfl, wpAny_pure (wpAny_pure ⟨_, rfl, q⟩)⟩ | exact ⟨b, rfl, ⟨_, rfl, q⟩⟩
  unfold richCompare
  simp only [oneThing_ref]
  refine wpAny_holding (wpAny_bind (wpAny_cRoomFor (Nat.lt_of_succ_lt hu) ?_))
  refine wpAny_bind (J.type.here (wpAny_bind (hb.here ?_)))
  rw [show (Value.ref C != Value.ref C) = false from by simp]
  simp only [Bool.false_eq_true, if_false]
  refine wpAny_bind (wpAny_pure ?_)
  simp only [Bool.false_eq_true, if_false]
  refine wpAny_bind (wpAny_mono one (fun r s' z => ?_) fun _ _ e => e)
  obtain ⟨v, rfl, hq⟩ := z
  exact wpAny_pure hq
end
/-- a != b by the class's __eq__ -/
theorem c_ownNe (ea : H a = some (.ins C dx fs)) (eb : H b = some (.ins C dx' fs')) (M : MethOk X.prog X.w X.K X.mg X.base C "__eq__" k ps sp) (hr : Room (k + 1) X.A)
    (hn : PySem.W.findIn X.K (.ref C) "__ne__" = some (some (.builtin "object.__ne__"))) (ho : PySem.W.subIn X.K (.ref C) (.type "object") = some true)
    (q : sp [.ref a, .ref b] H (fun v H' => ∃ t, v = .bl t ∧ Q (.bl (!t)) H') E0) : RO X (compareOp .NotEq) (.ref a) (.ref b) H Q := by
  intro pins s σ v u I r1 r2
  cases r1
  cases r2
  obtain ⟨f, fd, F, hm, hb⟩ := M.ex
  obtain ⟨m', Fr⟩ := I.fr
  obtain ⟨od, J⟩ := typ_ins I ea
  obtain ⟨od', J'⟩ := typ_ins I eb
  refine PySem.W.cmp_ofNotEq (ne_own (by have := hr.units; omega) Fr I.ok.mod.kin J J'.type hn ho hm.at_ hm.fn (thn (run_in1 F hr hb I (.cons (rr a) (.cons (rr b) .nil)) q) fun u s' h => ?_))
  obtain ⟨v, H', I', r, t, rfl, q⟩ := h
  cases r
  exact ⟨t, rfl, .bl (!t), H', I', rfl, q⟩
/-- v in a -/
theorem c_ownIn {x : V} (ea : H a = some (.ins C dx fs)) (M : MethOk X.prog X.w X.K X.mg X.base C "__contains__" k ps sp) (hr : Room k X.A)
    (q : sp [.ref a, x] H (fun v H' => ∃ t, v = .bl t ∧ Q (.bl t) H') E0) : RO X (compareOp .In) x (.ref a) H Q := by
  intro pins s σ v u I r1 r2
  cases r2
  obtain ⟨f, fd, F, hm, hb⟩ := M.ex
  obtain ⟨m', Fr⟩ := I.fr
  obtain ⟨od, J⟩ := typ_ins I ea
  refine PySem.W.in_K Fr I.ok.mod.kin J hm.at_ hm.fn (thn (run_plain F hr hb I (.cons (rr a) (.cons r1 .nil)) q) fun u s' h => ?_)
  obtain ⟨v, H', I', r, t, rfl, q⟩ := h
  cases r
  exact wpAny_truthy_bool ⟨.bl t, H', I', rfl, q⟩
theorem c_ownNotIn {x : V} (ea : H a = some (.ins C dx fs)) (M : MethOk X.prog X.w X.K X.mg X.base C "__contains__" k ps sp) (hr : Room k X.A)
    (q : sp [.ref a, x] H (fun v H' => ∃ t, v = .bl t ∧ Q (.bl (!t)) H') E0) : RO X (compareOp .NotIn) x (.ref a) H Q := by
  intro pins s σ v u I r1 r2
  cases r2
  obtain ⟨f, fd, F, hm, hb⟩ := M.ex
  obtain ⟨m', Fr⟩ := I.fr
  obtain ⟨od, J⟩ := typ_ins I ea
  refine PySem.W.notIn_K Fr I.ok.mod.kin J hm.at_ hm.fn (thn (run_plain F hr hb I (.cons (rr a) (.cons r1 .nil)) q) fun u s' h => ?_)
  obtain ⟨v, H', I', r, t, rfl, q⟩ := h
  cases r
  exact wpAny_truthy_bool ⟨.bl (!t), H', I', rfl, q⟩
/-- len(a) -/
theorem b_ownLen (ea : H a = some (.ins C dx fs)) (M : MethOk X.prog X.w X.K X.mg X.base C "__len__" k ps sp) (hr : Room (k + 1) X.A)
    (q : sp [.ref a] H (fun v H' => ∃ n : Int, v = .int n ∧ (0 ≤ n ∧ n < 2 ^ 63) ∧ Q (.int n) H') E0) : RC X (.builtin "len") [.ref a] H Q := by
  intro pins s σ us I r
  cases r with
  | cons r1 r2 =>
    cases r2
    cases r1
    obtain ⟨f, fd, F, hm, hb⟩ := M.ex
    obtain ⟨m', Fr⟩ := I.fr
    obtain ⟨od, J⟩ := typ_ins I ea
    refine PySem.W.len_K Fr I.ok.mod.kin J hm.at_ hm.fn (thn (run_in1 F hr hb I (.cons (rr a) .nil) q) fun u s' h => ?_)
    obtain ⟨v, H', I', r, n, rfl, hn, q⟩ := h
    obtain ⟨t, rfl⟩ := r
    exact ⟨hn, .int n, H', I'.tok _, ⟨_, rfl⟩, q⟩
/-- str(a) by the class's __str__ -/
theorem b_ownStr (ea : H a = some (.ins C dx fs)) (M : MethOk X.prog X.w X.K X.mg X.base C "__str__" k ps sp) (hr : Room (k + 2) X.A)
    (q : sp [.ref a] H (fun v H' => ∃ z : Str, v = .str z ∧ Q (.str z) H') E0) : RC X (.type "str") [.ref a] H Q := by
  intro pins s σ us I r
  cases r with
  | cons r1 r2 =>
    cases r2
    cases r1
    obtain ⟨f, fd, F, hm, hb⟩ := M.ex
    obtain ⟨od, J⟩ := typ_ins I ea
    refine PySem.W.kso_call (by have := hr.in1.in1.units0; exact this) I.kIn J hm.at_ hm.fn (thn (run_in2 F hr hb I (.cons (rr a) .nil) q) fun u s' h => ?_)
    obtain ⟨v, H', I', r, z, rfl, q⟩ := h
    obtain ⟨t, rfl⟩ := r
    exact ⟨.str z, H', I', ⟨_, rfl⟩, q⟩
/-- repr(a) by the class's __repr__ -/
theorem b_ownRepr (ea : H a = some (.ins C dx fs)) (M : MethOk X.prog X.w X.K X.mg X.base C "__repr__" k ps sp) (hr : Room (k + 1) X.A)
    (q : sp [.ref a] H (fun v H' => ∃ z : Str, v = .str z ∧ Q (.str z) H') E0) : RC X (.builtin "repr") [.ref a] H Q := by
  intro pins s σ us I r
  cases r with
  | cons r1 r2 =>
    cases r2
    cases r1
    obtain ⟨f, fd, F, hm, hb⟩ := M.ex
    obtain ⟨m', Fr⟩ := I.fr
    obtain ⟨od, J⟩ := typ_ins I ea
    refine PySem.W.repr_K hr.in1.units0 Fr I.ok.mod.kin J hm.at_ hm.fn (thn (run_in1 F hr hb I (.cons (rr a) .nil) q) fun u s' h => ?_)
    obtain ⟨v, H', I', r, z, rfl, q⟩ := h
    obtain ⟨t, rfl⟩ := r
    exact ⟨.str z, H', I', ⟨_, rfl⟩, q⟩
/-- a.f, a property -/
theorem e_prop {e : Expr} {x : Str} {pos : Pos} {σ : St} {p g : Addr} (c : Cls X.K C) (hp : PropOf X.K C x p g) (F : FnOk X.prog X.w X.K X.mg X.base CX0 k g fd ps sp) (hr : Room (k + 1) X.A) (hb : Binds X.K fd ps [])
    (hab : attributeBase e x X.env (eval e X.env) = eval e X.env) (q : RE X e σ H fun v H1 => ∃ a dx fs, v = .ref a ∧ H1 a = some (.ins C dx fs) ∧ sp [.ref a] H1 Q E0) : RE X (.Attribute e x pos) σ H Q := re_of (pe_prop (re e) c hp F hr hb .nil pass0 hab) q
/-- a.m(e, ..) -/
theorem e_meth {o e : Expr} {es : List Expr} {apos pos : Pos} {σ : St} {pl : Sem Bool} (c : Cls X.K C) (M : MethOk X.prog X.w X.K X.mg X.base C m k ps sp) (hr : Room k X.A)
    (hst : starEach (e :: es) X.env = (false, eval e X.env) :: starEach es X.env) (hpl : (backTo pos (starEach es X.env)).any (·.1) = false)
    (ht : eval (.Call (.Attribute o m apos) (e :: es) [] pos) X.env = (do let z ← eval o X.env; standAt apos.atName; let (y, first) ← holding [z] (getMethod z m pl); callWith pos y first (backTo pos (starEach (e :: es) X.env)) (backToKw pos (keywordEach [] X.env))))
    (q : RE X o σ H fun v H1 => ∃ a dx fs, v = .ref a ∧ H1 a = some (.ins C dx fs) ∧ fs.lookup m = none ∧ RA X (e :: es) σ H1 fun vs H2 => sp (v :: vs) H2 Q E0) : RE X (.Call (.Attribute o m apos) (e :: es) [] pos) σ H Q := by
  obtain ⟨f, fd, F, hm, hb⟩ := M.ex
  refine re_of (pe_meth (re o) c hm F hr hb .nil pass0 (ra _) hst hpl ht) ?_
  refine fun pins s I => thn (q pins s I) fun u s' h => ?_
  obtain ⟨v, H', I', r, a, dx, fs, e1, e2, e3, q⟩ := h
  refine ⟨v, H', I', r, a, dx, fs, e1, e2, e3, fun ps' pins s I => thn (q ps' pins s I) fun u s' h => ?_⟩
  obtain ⟨vs, H2, I2, r2, q⟩ := h
  exact ⟨vs, H2, I2, r2, by show sp (v :: (vs ++ [])) H2 Q E0; rw [List.append_nil]; exact q⟩
theorem e_meth0 {o : Expr} {apos pos : Pos} {σ : St} {pl : Sem Bool} (c : Cls X.K C) (M : MethOk X.prog X.w X.K X.mg X.base C m k ps sp) (hr : Room k X.A)
    (ht : eval (.Call (.Attribute o m apos) [] [] pos) X.env = (do let z ← eval o X.env; standAt apos.atName; let (y, first) ← holding [z] (getMethod z m pl); callWith pos y first (backTo pos (starEach [] X.env)) (backToKw pos (keywordEach [] X.env))))
    (q : RE X o σ H fun v H1 => ∃ a dx fs, v = .ref a ∧ H1 a = some (.ins C dx fs) ∧ fs.lookup m = none ∧ sp [v] H1 Q E0) : RE X (.Call (.Attribute o m apos) [] [] pos) σ H Q := by
  obtain ⟨f, fd, F, hm, hb⟩ := M.ex
  refine re_of (pe_meth0 (re o) c hm F hr hb .nil pass0 ht) ?_
  refine fun pins s I => thn (q pins s I) fun u s' h => ?_
  obtain ⟨v, H', I', r, a, dx, fs, e1, e2, e3, q⟩ := h
  exact ⟨v, H', I', r, a, dx, fs, e1, e2, e3, q⟩
/-! ### attributes, making -/
theorem few1000 {n : Nat} (h : Nat.ble (n + 1) 1000 = true) : n < 1000 := Nat.le_of_ble_eq_true h
theorem exFld {x : Str} {v : V} {A : V → Prop} {K : PySem.W.Frag} (ha : H a = some (.ins C dx fs)) (hc : Cls K C) (hn : NoAttr K C x) (hl : fs.lookup x = some v) (q : A v) : ∃ a' C dx fs v', V.ref a = .ref a' ∧ H a' = some (.ins C dx fs) ∧ Cls K C ∧ NoAttr K C x ∧ fs.lookup x = some v' ∧ A v' := ⟨a, C, dx, fs, v, rfl, ha, hc, hn, hl, q⟩
theorem s_fld {o e : Expr} {x : Str} {pos pos' : Pos} {σ : St} {nx bk ct : St → Hp → Prop} {rt' : VK} (hs : swapsWith e (some (.Attribute o x pos')) pos.line X.env = pure false)
    (q : RE X e σ H fun y H1 => RE X o σ H1 fun v H2 => ∃ a C dx fs, v = .ref a ∧ H2 a = some (.ins C dx fs) ∧ Cls X.K C ∧ NoAttr X.K C x ∧ fs.length < 1000 ∧ nx σ (upd H2 a (.ins C dx (putF x y fs)))) : RS X (.Assign [.Attribute o x pos'] e pos) ⟨nx, rt', bk, ct⟩ σ H :=
  rs_of (ps_fld (re o) (re e) hs) q
theorem exSet {x : Str} {A : Addr → Addr → Addr → List (Str × V) → Prop} (ha : H a = some (.ins C dx fs)) (hc : Cls X.K C) (hn : NoAttr X.K C x) (hl : fs.length < 1000) (q : A a C dx fs) : ∃ a' C dx fs, V.ref a = .ref a' ∧ H a' = some (.ins C dx fs) ∧ Cls X.K C ∧ NoAttr X.K C x ∧ fs.length < 1000 ∧ A a' C dx fs := ⟨a, C, dx, fs, rfl, ha, hc, hn, hl, q⟩
structure MakeOk (P : Program) (w : World) (K : PySem.W.Frag) (mg : Str → Option Value) (base : Heap) (x : Str) (C : Addr) (k : Nat) (ps : List Str) (sp : Sp) (dvs : List V) : Prop where
  ex : ∃ (f : Addr) (fd : FuncData) (ds : List Value), Mk K C f ∧ FnOk P w K mg base CX0 k f fd ps sp ∧ mg x = some (.ref C) ∧ Binds K fd ps ds ∧ Vals dvs ds
theorem e_make {e : Expr} {es : List Expr} {x : Str} {p pos : Pos} {σ : St} {dvs : List V} (M : MakeOk X.prog X.w X.K X.mg X.base x C k ps sp dvs) (hr : Room (k + 1) X.A) (hg : Gl X x) (hd : (x == ("__debug__" : Str)) = false) (he : starEach (e :: es) X.env = (false, eval e X.env) :: starEach es X.env) (hpl : (backTo pos (starEach es X.env)).any (·.1) = false)
    (q : RA X (e :: es) σ H fun vs H1 => ∀ x dx, H1 x = none → H1 dx = none → dx ≠ x → sp (.ref x :: (vs ++ dvs)) (upd (upd H1 dx (.own x)) x (.ins C dx [])) (fun v H2 => v = .non ∧ Q (.ref x) H2) E0) : RE X (.Call (.Name x p) (e :: es) [] pos) σ H Q := by
  obtain ⟨f, fd, ds, M, F, hm, hb, hv⟩ := M.ex
  exact re_of (pe_make M F hr hg hm hb hv pass0 (ra _) hd he hpl) q
/-- a < b < c -/
theorem e_chain {a b c : Expr} {op op' : CmpOp} {pos : Pos} {σ : St} (hm : lastMarks [op, op'] [b, c] = false) (q : RE X a σ H fun x H1 => RE X b σ H1 fun y H2 => RO X (compareOp op) x y H2 fun z H3 => ∃ k, z = .bl k ∧ (if k = true then RE X c σ H3 fun u H4 => RO X (compareOp op') y u H4 Q else Q (.bl false) H3)) :
    RE X (.Compare a [op, op'] [b, c] pos) σ H Q := re_of (pe_chain (ro _) (ro _) (re a) (re b) (re c) hm) q
theorem look_ix {v : V} : ∀ {N : List Str} {σ : St} {x : Str}, (N.zip σ).lookup x = some (some v) → ∃ i : Nat, N[i]? = some x ∧ σ[i]? = some (some v) := by
  intro N
  induction N with
  | nil => intro σ x h; simp at h
  | cons n ns ih =>
    intro σ x h
    cases σ with
    | nil => simp at h
    | cons o os =>
      rw [List.zip_cons_cons, List.lookup_cons] at h
      split at h
      · rename_i hh
        have e : x = n := by simpa using hh
        exact ⟨0, by rw [e]; rfl, by cases h; rfl⟩
      · obtain ⟨i, h1, h2⟩ := ih h
        exact ⟨i + 1, h1, h2⟩
/-- x op= e -/
theorem s_aug {x : Str} {e : Expr} {op : Operator} {v : V} {pos pos' : Pos} {σ : St} {nx bk ct : St → Hp → Prop} {rt' : VK} (hN : X.N.Nodup) (hx : Loc X.env.scope x) (hf : X.fn x = true ∨ X.env.scope.names.lookup x = some .local) (hv : (X.N.zip σ).lookup x = some (some v))
    (q : RE X e σ H fun y H1 => RIp X op v y H1 fun z H2 => nx (setN X.N σ x z) H2) : RS X (.AugAssign (.Name x pos') op e pos) ⟨nx, rt', bk, ct⟩ σ H := by
  obtain ⟨i, h, h2⟩ := look_ix hv
  refine rs_of (ps_aug (i := i) hN h hx (re e) (rip op) hf) ⟨v, h2, ?_⟩
  have e1 : (fun z H2 => nx (setN X.N σ x z) H2) = fun z H2 => nx (σ.set i (some z)) H2 := by
    funext z H2
    rw [setN_eq h hN]
  rw [e1] at q
  exact q
theorem ip_addI {i j : Int} (q : Q (.int (i + j)) H) : RIp X .Add (.int i) (.int j) H Q := rip_of ip_add ⟨i, j, rfl, rfl, q⟩
/-- isinstance -/
theorem b_isi {x c : V} {t u : Value} {b : Bool} (hc : ClsV c u) (ht : TyX X.K H x t) (hk : PySem.W.kitOne X.K t u = some b) (q : Q (.bl b) H) : RC X (.builtin "isinstance") [x, c] H Q := rc_of call_isi ⟨x, c, t, u, b, rfl, hc, ht, hk, q⟩
theorem b_isiInt {i : Int} {T : String} {b : Bool} (hk : kitB "int" T = some b) (q : Q (.bl b) H) : RC X (.builtin "isinstance") [.int i, .ty T] H Q := b_isi (.ty T) (.base (.int i)) (kit_ty hk) q
theorem b_isiTup {p : Addr} {xs : List V} {b : Bool} {T : String} (hp : H p = some (.tup xs)) (hk : kitB "tuple" T = some b) (q : Q (.bl b) H) : RC X (.builtin "isinstance") [.ref p, .ty T] H Q := b_isi (.ty T) (.base (.tup hp)) (kit_ty hk) q
theorem b_isiTupQ {p : Addr} {xs : List V} {b : Bool} {T : String} (hp : SqT X.K H p xs) (hk : kitB "tuple" T = some b) (q : Q (.bl b) H) : RC X (.builtin "isinstance") [.ref p, .ty T] H Q := by
  rcases hp with (hp | ⟨o, hp⟩) | ⟨o, us, n, hl, hc, _⟩
  · exact b_isiTup hp hk q
  · exact b_isi (.ty T) (.fTuple hp) (kit_ty hk) q
  · exact b_isi (.ty T) (.kTuple hl hc) (kit_ty hk) q
structure PropOk (P : Program) (w : World) (K : PySem.W.Frag) (mg : Str → Option Value) (base : Heap) (C : Addr) (x : Str) (k : Nat) (ps : List Str) (sp : Sp) : Prop where
  ex : ∃ (p g : Addr) (fd : FuncData), PropOf K C x p g ∧ FnOk P w K mg base CX0 k g fd ps sp ∧ Binds K fd ps []
theorem e_propOk {e : Expr} {x : Str} {pos : Pos} {σ : St} (M : PropOk X.prog X.w X.K X.mg X.base C x k ps sp) (c : Cls X.K C) (hr : Room (k + 1) X.A) (hab : attributeBase e x X.env (eval e X.env) = eval e X.env)
    (q : RE X e σ H fun v H1 => ∃ a dx fs, v = .ref a ∧ H1 a = some (.ins C dx fs) ∧ sp [.ref a] H1 Q E0) : RE X (.Attribute e x pos) σ H Q := by
  obtain ⟨p, g, fd, hp, F, hb⟩ := M.ex
  exact e_prop c hp F hr hb hab q
theorem exObj {A : Addr → Prop} (ha : H a = some (.ins C dx fs)) (q : A a) : ∃ a' dx fs, V.ref a = .ref a' ∧ H a' = some (.ins C dx fs) ∧ A a' := ⟨a, dx, fs, rfl, ha, q⟩
theorem exMeth {A : Prop} (ha : H a = some (.ins C dx fs)) (hl : fs.lookup m = none) (q : A) : ∃ a' dx fs, V.ref a = .ref a' ∧ H a' = some (.ins C dx fs) ∧ fs.lookup m = none ∧ A := ⟨a, dx, fs, rfl, ha, hl, q⟩
theorem b_isiOwn (c : C8.InsC X.K C) (ea : H a = some (.ins C dx fs)) (q : Q (.bl true) H) : RC X (.builtin "isinstance") [.ref a, .ref C] H Q := rc_of (C8.call_isC c) ⟨a, dx, fs, rfl, ea, q⟩
end
end Sx

end
section -- Ss
set_option maxRecDepth 100000
set_option maxHeartbeats 4000000
namespace Sx
open PySem PySem.Spec L2
open PyProof.Rows hiding St
theorem call_set_listI {P : Program} {w : World} {A : Around} {E : Value → Shared → Prop} {s : Shared} {l : Addr} {items : Array Value} (ns : List Int) {Q : Value → Shared → Prop} (hh : A.handled = none) (hl : s.heap.IsList l items) (hit : IntsAre items.toList ns) (hb : ns.length + 1 < scanBound)
    (h : ∀ (h' : Heap) (tk c : Nat), SetR w h' s.heap.objs.size (fun j => decide (j ∈ ns)) c → c ≤ ns.length → (∀ (b : Addr) (o : Obj), s.heap.get? b = some o → h'.get? b = some o) → Q (Value.ref s.heap.objs.size) { heap := h', gens := s.gens, drawn := s.drawn, toks := tk, os := s.os }) :
    wpAny (model P w) A (call (Value.type "set") [Value.ref l]) Q E s := by
  have hisz : items.size = ns.length := by have q := hit.length; rwa [Array.length_toList] at q
  obtain ⟨c, tl, hmro⟩ := F.called_set.mro
  have hmade := F.called_set.made
  have hsub := F.called_set.sub
  refine wpAny_call (codeAny_of_tree ?_)
  refine wpAny_pure ⟨Code.quiet_builtin _ (by decide +kernel), ?_⟩
  refine codeAny_builtin F.entry_type_call ?_
  rw [Around.under_plain (weight_type_call_type "set" [Value.ref l] []) rfl]
  have h1 := F.called_set.notType
  have h2 := F.called_set.canCreate
  have hct := F.typeCall_set_1 (Value.ref l)
  unfold Builtin.«type.__call__»
  refine wpAny_ite_false (by rfl) ?_
  refine wpAny_ite_false (by rfl) ?_
  refine wpAny_bind (wpAny_of_eq hct (wpAny_bind (wpAny_of_eq hmro (wpAny_ite_false (by rfl) (wpAny_bind (wpAny_of_eq hmade (wpAny_bind (wpAny_pure (wpAny_bind (wpAny_holding (wpAny_call (codeAny_mono (code_set_led1 (E := E) (Q₁ := fun (obj : Value) (s₁ : Shared) => obj = Value.ref s.heap.objs.size ∧ s₁ = ({ heap := s.heap.push { cls := Value.type "set", data := Data.set #[] 0 (SetTable.fresh 0 0 !w.params.followText "set-order") }, gens := s.gens, drawn := s.drawn, toks := s.toks, os := s.os } : Shared)) (Value.ref l) ⟨rfl, rfl⟩) fun r s₁ hr => ?_))))))))))))
  cases r with
  | error e => exact hr
  | ok fl =>
    cases fl with
    | next => exact hr.elim
    | brk => exact hr.elim
    | cont => exact hr.elim
    | ret obj =>
      obtain ⟨rfl, rfl⟩ := hr
      have hS : (s.heap.push ({ cls := Value.type "set", data := Data.set #[] 0 (SetTable.fresh 0 0 !w.params.followText "set-order") } : Obj)).get? s.heap.objs.size = some { cls := Value.type "set", data := Data.set #[] 0 (SetTable.fresh 0 0 !w.params.followText "set-order") } := Heap.get?_push_size _ rfl
      have hT : Shared.TypeIs { heap := s.heap.push { cls := Value.type "set", data := Data.set #[] 0 (SetTable.fresh 0 0 !w.params.followText "set-order") }, gens := s.gens, drawn := s.drawn, toks := s.toks, os := s.os } (Value.ref s.heap.objs.size) "set" := ⟨_, hS, rfl⟩
      have hli := F.called_set.init.lookup
      have hbi := F.called_set.init.bind
      obtain ⟨ol, hol, hcl, nl, hdl⟩ := hl
      have hol' := Heap.get?_push_of_some { cls := Value.type "set", data := Data.set #[] 0 (SetTable.fresh 0 0 !w.params.followText "set-order") } hol
      have hTl : Shared.TypeIs { heap := s.heap.push { cls := Value.type "set", data := Data.set #[] 0 (SetTable.fresh 0 0 !w.params.followText "set-order") }, gens := s.gens, drawn := s.drawn, toks := s.toks, os := s.os } (Value.ref l) "list" := ⟨_, hol', hcl⟩
      have hsls := F.sub_list_set
      have hslf := F.sub_list_frozenset
      refine wpAny_bind (wpAny_isInstance hT hsub (wpAny_ite_false (by rfl) ?_))
      refine wpAny_bind (wpAny_holding ?_)
      show wpAny _ _ (callSpecial? _ _ _ _) _ _ _
      unfold callSpecial?
      refine wpAny_bind (wpAny_specialOf hT hli ?_)
      refine wpAny_holding (wpAny_bind (wpAny_of_eq (hbi _) (wpAny_bind ?_)))
      refine wpAny_call (codeAny_mono (codeAny_call_builtin (R := fun r s' => ∃ h' tk c, r = .ok (.ret .none) ∧ s' = { heap := h', gens := s.gens, drawn := s.drawn, toks := tk, os := s.os } ∧ SetR w h' s.heap.objs.size (fun j => decide (j ∈ ns)) c ∧ c ≤ ns.length ∧ (∀ (b : Addr) (o : Obj), s.heap.get? b = some o → h'.get? b = some o)) F.called_set.init.plain F.entry_set_init (check_set_init_1 hT ?_)) fun r₂ s₂ hr₂ => ?_)
      · unfold Builtin.«set.__init__»
        simp only [noKeywords, Builtin.Frozenset.addrOf, List.cons_append, List.nil_append]
        repeat (first | ((with_reducible refine wpAny_bind (m := pyIter (Value.ref l)) ?_); refine wpAny_pyIter_list ⟨ol, hol', hcl, nl, hdl⟩ ?_) | (with_reducible refine wpAny_runValue ?_) | wp_step)
        have hlS := Heap.lt_size hol
        have hz1 : (s.heap.push ({ cls := Value.type "set", data := Data.set #[] 0 (SetTable.fresh 0 0 !w.params.followText "set-order") } : Obj)).objs.size = s.heap.objs.size + 1 := Heap.size_push _ _
        have hneI : l ≠ (s.heap.push ({ cls := Value.type "set", data := Data.set #[] 0 (SetTable.fresh 0 0 !w.params.followText "set-order") } : Obj)).objs.size := by rw [hz1]; exact Nat.ne_of_lt (Nat.lt_succ_of_lt hlS)
        refine set_update_ints (n := items.size) (Walks.toS (Walks.list (A := A.in1.in1.in1) hh _ l hneI items)) s.heap.objs.size (by
            rw [List.mem_cons, List.mem_cons]
            rintro (e | e | e)
            · rw [hz1] at e; exact absurd e (Nat.ne_of_lt (Nat.lt_succ_self _))
            · exact absurd e (Nat.ne_of_gt hlS)
            · cases e) ns hisz hb (fun i v hv => ?_) items.size 0 _ (Nat.sub_zero _) (Nat.zero_le _) ?_ ⟨0, Nat.le_refl _, setR_new_at (Heap.get?_push_of_some _ hS)⟩ (fun s' c' hm hc' hS' => ?_)
        · have hi : i < ns.length := by rw [← hisz]; exact (Array.getElem?_eq_some_iff.mp hv).1
          obtain ⟨t, e⟩ := IntsAre.int_at hit i v (by rw [Array.getElem?_toList]; exact hv)
          refine ⟨_, t, List.getElem?_eq_getElem hi, ?_⟩
          rw [e, List.getD_eq_getElem?_getD, List.getElem?_eq_getElem hi]
          rfl
        · exact ⟨⟨_, Heap.get?_push_size _ rfl, rfl, rfl⟩, ol, Heap.get?_push_of_some _ hol', hcl, nl, hdl⟩
        · obtain ⟨h', g2, d', tk', os'⟩ := s'
          have eg := hm.gens
          have ed := hm.drawn
          have eo := hm.os
          cases eg
          cases ed
          cases eo
          refine wpAny_pure (wpAny_pure ⟨h', tk', c', rfl, rfl, hS', by omega, fun b o e => ?_⟩)
          have hb0 := Heap.lt_size e
          refine hm.heap b o ?_ (Heap.get?_push_of_some _ (Heap.get?_push_of_some _ e))
          rw [List.mem_cons, List.mem_cons]
          rintro (e | e | e)
          · exact absurd e (Nat.ne_of_lt hb0)
          · have : b = s.heap.objs.size + 1 := by rw [← hz1]; exact e
            exact absurd this (Nat.ne_of_lt (Nat.lt_succ_of_lt hb0))
          · cases e
      · obtain ⟨h', tk, c', rfl, rfl, hS', hc', hk⟩ := hr₂
        exact wpAny_pure (wpAny_ite_false (by rfl) (wpAny_pure (h h' tk c' hS' hc' hk)))
end Sx
namespace Sx
open PySem PySem.Spec L2
open PyProof.Rows hiding St
section
variable {X : Cx} {H : Hp} {Q : VK} {l : Addr} {ns : List Int}
theorem setR_keys {w : World} {h : Heap} {a : Addr} {S : Int → Bool} {n : Nat} (R : SetR w h a S n) : ∃ ks : List Int, ks.Nodup ∧ ks.length = n ∧ ∀ k, S k = true ↔ k ∈ ks := by
  obtain ⟨o, es, ep, t, _, _, _, _, h1, h2, _, _, h3, _⟩ := R
  exact ⟨es.toList.map keyOf, h1, by rw [List.length_map, Array.length_toList]; exact h3, h2⟩
def SetK (X : Cx) (H : Hp) (ns : List Int) (Q : VK) : Prop := ∀ (a : Addr) (ks : List Int), H a = none → ks.Nodup → (∀ k, k ∈ ks ↔ k ∈ ns) → Q (.ref a) (upd H a (SetO X.w a (fun j => decide (j ∈ ns)) ks.length))
theorem b_setL (hc : X.calm = true) (hp : SqL X.K H l (ns.map V.int)) (hn : ns.length ≤ 4000) (q : SetK X H ns Q) : RC X (.type "set") [.ref l] H Q := by
  intro pins s σ us I r
  rw [r.ref1]
  obtain ⟨its, hv, ⟨oo, nn, hl1, hl2, _, hl3⟩, _⟩ := I.list hp
  refine call_set_listI ns (I.ok.hd hc) ⟨oo, hl1, hl2, nn, hl3⟩ (by simpa using hv.ints) (by unfold scanBound; omega) fun h' tk c R hcl hk => ?_
  obtain ⟨ks, h1, h2, h3⟩ := setR_keys R
  subst h2
  exact ⟨.ref _, _, I.laid hk (Nat.le_refl _) (setO_new R), rfl, q _ ks I.fresh h1 fun k => by rw [← h3, decide_eq_true_eq]⟩
theorem b_setT (hc : X.calm = true) (hp : SqT X.K H l (ns.map V.int)) (hn : ns.length ≤ 4000) (q : SetK X H ns Q) : RC X (.type "set") [.ref l] H Q := by
  intro pins s σ us I r
  rw [r.ref1]
  obtain ⟨its, hv, hl, _⟩ := I.tuple hp
  refine call_set_tupI ns (I.ok.hd hc) hl (by simpa using hv.ints) (by unfold scanBound; omega) fun h' tk c R hcl hk => ?_
  obtain ⟨ks, h1, h2, h3⟩ := setR_keys R
  subst h2
  exact ⟨.ref _, _, I.laid hk (Nat.le_refl _) (setO_new R), rfl, q _ ks I.fresh h1 fun k => by rw [← h3, decide_eq_true_eq]⟩
theorem b_sortSet (hc : X.calm = true) {a : Addr} {S : Int → Bool} {n : Nat} (ha : H a = some (SetO X.w a S n)) (hn : n < 64) (q : ∀ (ms : List Int) (p : Addr), ms.Pairwise (· < ·) → (∀ k : Int, k ∈ ms ↔ S k = true) → H p = none → Q (.ref p) (upd H p (.lst (ms.map V.int)))) : RC X (.builtin "sorted") [.ref a] H Q :=
  rc_of (cr_sortedSet hc) ⟨a, S, n, rfl, ha, hn, fun ms p h1 h2 _ h4 => q ms p h1 h2 h4⟩
theorem b_sortL {ns : List Int} (hp : SqL X.K H l (ns.map V.int)) (q : ∀ (ms : List Int) (p : Addr), ms.Perm ns → ms.Pairwise (· ≤ ·) → H p = none → Q (.ref p) (upd H p (.lst (ms.map V.int)))) : RC X (.builtin "sorted") [.ref l] H Q :=
  rc_of cr_sortedI ⟨l, ns, rfl, hp, q⟩
/-- comparing data -/
theorem c_eqD {n : Nat} {x y : V} {d e : PyData} (hr : Room n X.A) (h1 : Dp X.K H x d) (h2 : Dp X.K H y e) (s1 : SeqAt.shaped d = true) (s2 : SeqAt.shaped e = true) (q : Q (.bl (PyData.eqv d e)) H) : RO X (compareOp .Eq) x y H Q :=
  ro_of (op_eqD hr.units) ⟨d, e, h1, h2, s1, s2, q⟩
theorem c_neD {n : Nat} {x y : V} {d e : PyData} (hr : Room n X.A) (h1 : Dp X.K H x d) (h2 : Dp X.K H y e) (s1 : SeqAt.shaped d = true) (s2 : SeqAt.shaped e = true) (q : Q (.bl (!PyData.eqv d e)) H) : RO X (compareOp .NotEq) x y H Q :=
  ro_of (op_neD hr.units) ⟨d, e, h1, h2, s1, s2, q⟩
end
end Sx

end
section -- Sz
set_option maxRecDepth 100000
set_option maxHeartbeats 4000000
namespace Sx
open PySem PySem.Spec L2
open PyProof.Rows hiding St
section
variable {X : Cx} {H : Hp} {Q : VK} {σ : St}
/-- tuple + tuple -/
theorem o_catT {a b : Addr} {xs ys : List V} (h1 : SqT X.K H a xs) (h2 : SqT X.K H b ys) (hz : xs.length + ys.length ≤ sizeLine) (q1 : xs = [] → Q (.ref b) H) (q2 : xs ≠ [] → ys = [] → Q (.ref a) H) (q3 : xs ≠ [] → ys ≠ [] → ∀ p, H p = none → Q (.ref p) (upd H p (.tup (xs ++ ys)))) : RO X (binaryOp .Add) (.ref a) (.ref b) H Q :=
  ro_of op_catA ⟨a, b, xs, ys, rfl, rfl, h1, h2, hz, q1, q2, q3⟩
/-- the same, told as one -/
theorem o_catT' {a b : Addr} {xs ys : List V} (h1 : SqT X.K H a xs) (h2 : SqT X.K H b ys) (hz : xs.length + ys.length ≤ sizeLine) (q : ∀ p H', (∀ c o, H c = some o → H' c = some o) → SqT X.K H' p (xs ++ ys) → Q (.ref p) H') : RO X (binaryOp .Add) (.ref a) (.ref b) H Q :=
  o_catT h1 h2 hz (fun e => q b H (fun _ _ h => h) (by rw [e]; exact h2)) (fun _ e => q a H (fun _ _ h => h) (by rw [e, List.append_nil]; exact h1)) (fun _ _ p hp => q p _ (Grow.upd hp) (SqT.of upd_same))
theorem flat_ints (ns : List Int) : (ns.map V.int).all flatV = true := by
  rw [List.all_eq_true]
  intro x hx
  obtain ⟨i, _, rfl⟩ := List.mem_map.mp hx
  rfl
theorem inV_ints (i : Int) (ns : List Int) : inV (.int i) (ns.map V.int) = decide (i ∈ ns) := by
  unfold inV
  induction ns with
  | nil => simp
  | cons n r ih =>
    rw [List.map_cons, List.any_cons, ih]
    simp only [List.mem_cons, Bool.decide_or]
    congr 1
    show eqV (.int n) (.int i) = _
    by_cases h : i = n
    · subst h; simp [eqV]
    · have h' : n ≠ i := fun e => h e.symm
      simp [eqV, h, h']
theorem c_inT {p : Addr} {i : Int} {ns : List Int} (h : SqT X.K H p (ns.map V.int)) (q : Q (.bl (decide (i ∈ ns))) H) : RO X (compareOp .In) (.int i) (.ref p) H Q :=
  ro_of op_in_seq ⟨p, _, rfl, .inr h, rfl, flat_ints ns, by rw [inV_ints]; exact q⟩
theorem c_notInT {p : Addr} {i : Int} {ns : List Int} (h : SqT X.K H p (ns.map V.int)) (q : Q (.bl (!decide (i ∈ ns))) H) : RO X (compareOp .NotIn) (.int i) (.ref p) H Q :=
  ro_of op_notIn_seq ⟨p, _, rfl, .inr h, rfl, flat_ints ns, by rw [inV_ints]; exact q⟩
/-- xs.append(e) -/
theorem e_append {o e : Expr} {apos cpos : Pos} (hab : attributeBase o "append" X.env (eval o X.env) = eval o X.env)
    (h2 : (((((backTo cpos (starEach [e] X.env)).all fun x => !x.1) && (backToKw cpos (keywordEach [] X.env)).all fun x => x.1.isSome) && decide (([e].length + ([] : List Keyword).length + if ([] : List Keyword).isEmpty = true then 0 else 1) < 30)) = true)) (h3 : (apos.endLine == cpos.line) = true) (h4 : starEach [e] X.env = (false, eval e X.env) :: starEach [] X.env) (h5 : (backTo cpos (starEach [] X.env)).any (·.1) = false)
    (q : RE X o σ H fun x H1 => ∃ l xs, x = .ref l ∧ H1 l = some (.lst xs) ∧ RA X [e] σ H1 fun zs H2 => ∃ y ys, zs = [y] ∧ H2 l = some (.lst ys) ∧ ys.length < sizeLine ∧ Q .non (upd H2 l (.lst (ys ++ [y])))) : RE X (.Call (.Attribute o "append" apos) [e] [] cpos) σ H Q := by
  refine re_of (pe_bm PySem.F.plainAttrs_list PySem.F.slot_list_append PySem.F.type_list_append mt_append (re o) (ra _) hab h2 h3 h4 h5) ?_
  refine fun pins s I => thn (q pins s I) fun u s' h => ?_
  obtain ⟨v, H', I', r, l, xs, rfl, e2, q⟩ := h
  refine ⟨_, H', I', r, .inl ⟨rfl, xs, SqL.of e2⟩, fun ps' pins s I => thn (q ps' pins s I) fun u s' h => ?_⟩
  obtain ⟨zs, H', I', r, y, ys, e1, e3, e4, q⟩ := h
  subst e1
  exact ⟨_, H', I', r, l, ys, y, rfl, rfl, e3, e4, q⟩
/-- one value, one keyword -/
def kg1 {α : Type} : List α → List α → List α
  | [a], [b] => [a, b]
  | _, _ => []
/-- a.m(k=e) -/
structure MethKOk (P : Program) (w : World) (K : PySem.W.Frag) (mg : Str → Option Value) (base : Heap) (C : Addr) (m kw : Str) (k : Nat) (ps : List Str) (sp : Sp) : Prop where
  ex : ∃ (f : Addr) (fd : FuncData), FnOk P w K mg base CX0 k f fd ps sp ∧ Meth K C m f ∧ KBinds K fd ps [kw] kg1 kg1
theorem e_methK {o e : Expr} {m kw : Str} {C : Addr} {k : Nat} {ps : List Str} {sp : Sp} {apos pos kpos : Pos} {pl : Sem Bool} (c : Cls X.K C) (M : MethKOk X.prog X.w X.K X.mg X.base C m kw k ps sp) (hr : Room k X.A)
    (ht : eval (.Call (.Attribute o m apos) [] [⟨some kw, e, kpos⟩] pos) X.env = (do let z ← eval o X.env; standAt apos.atName; let (y, first) ← holding [z] (getMethod z m pl); callWith pos y first (backTo pos (starEach [] X.env)) (backToKw pos (keywordEach [⟨some kw, e, kpos⟩] X.env))))
    (hall : ((backToKw pos (keywordEach [⟨some kw, e, kpos⟩] X.env)).all fun x => x.1.isSome) = true) (hks : (backToKw pos (keywordEach [⟨some kw, e, kpos⟩] X.env)).filterMap (fun x => x.1) = [kw]) (hpl : (((backTo pos (starEach [] X.env)).any fun x => x.1) || (backToKw pos (keywordEach [⟨some kw, e, kpos⟩] X.env)).any fun x => x.1.isNone) = false)
    (q : RE X o σ H fun v H1 => ∃ a dx fs, v = .ref a ∧ H1 a = some (.ins C dx fs) ∧ fs.lookup m = none ∧ RE X e σ H1 fun y H2 => sp [v, y] H2 Q E0) : RE X (.Call (.Attribute o m apos) [] [⟨some kw, e, kpos⟩] pos) σ H Q := by
  obtain ⟨f, fd, F, hm, KB⟩ := M.ex
  intro pins s I
  refine PySem.W.methodCall_KW (thn (q pins s I) fun u s1 h => ?_) ht
  obtain ⟨v, H1, I1, r, a, dx, fs, rfl, ea, hl, q⟩ := h
  cases r
  refine getmeth_ok I1 ea c hm hl ?_
  have q' : RK X [⟨some kw, e, kpos⟩] σ H1 fun ys H2 => (∃ y, ys = [y]) ∧ sp (V.ref a :: ys) H2 Q E0 := rk_of (pk_cons (re e) pk_nil) (re_mono q fun y H2 h => ⟨⟨y, rfl⟩, h⟩)
  refine PySem.W.callWith_KW0 I1.ok.mod.kin hm.kp hall (thn (q' pos pins s1 I1) fun ws s2 h => ?_) hpl
  obtain ⟨zs, H2, I2, rz, ⟨z, rfl⟩, q⟩ := h
  refine ⟨I2.kIn, ?_⟩
  rw [hks]
  exact run_fnk F hr KB pass0 I2 (.cons (rr a) .nil) rz q
/-- x, y = a, b and x, y, z = a, b, c, stored one by one -/
theorem s_par {x y : Str} {a b : Expr} {px py pz pt pos pt2 : Pos} {kt k2 : Nat} {nx bk ct : St → Hp → Prop} {rt' : VK} (hc : X.calm = true) (hN : X.N.Nodup) (hi : X.N.contains x = true) (hj : X.N.contains y = true) (hxy : x ≠ y) (hx : X.env.scope.names.lookup x = some .local) (hy : X.env.scope.names.lookup y = some .local)
    (hw : swappedStores [.Tuple [.Name x px, .Name y py] kt pt] (.Tuple [a, b] k2 pt2) X.env = pure (some [x, y])) (hs : swapsWithSole [.Tuple [.Name x px, .Name y py] kt pt] (.Tuple [a, b] k2 pt2) pos.line X.env = pure false)
    (q : RA X [a, b] σ H fun vs H1 => ∃ v w, vs = [v, w] ∧ nx (setN X.N (setN X.N σ x v) y w) H1) : RS X (.Assign [.Tuple [.Name x px, .Name y py] kt pt] (.Tuple [a, b] k2 pt2) pos) ⟨nx, rt', bk, ct⟩ σ H := by
  obtain ⟨i, h1⟩ := idx_of hi
  obtain ⟨j, h2⟩ := idx_of hj
  refine rs_of (ps_par hc hN h1 h2 (fun e => hxy (by rw [e] at h1; exact Option.some.inj (h1.symm.trans h2))) hx hy (ra _) hw hs) ?_
  have e1 : (fun vs H1 => ∃ v w, vs = [v, w] ∧ nx (setN X.N (setN X.N σ x v) y w) H1) = fun vs H1 => ∃ v w, vs = [v, w] ∧ nx ((σ.set i (some v)).set j (some w)) H1 := by
    funext vs H1
    simp only [setN_eq h1 hN, setN_eq h2 hN]
  rw [e1] at q
  exact q
theorem s_par3 {x y z : Str} {a b c : Expr} {px py pz pt pos pt2 : Pos} {kt k2 : Nat} {nx bk ct : St → Hp → Prop} {rt' : VK} (hc : X.calm = true) (hN : X.N.Nodup) (hi : X.N.contains x = true) (hj : X.N.contains y = true) (hl : X.N.contains z = true) (hxy : x ≠ y) (hxz : x ≠ z) (hyz : y ≠ z) (hx : X.env.scope.names.lookup x = some .local) (hy : X.env.scope.names.lookup y = some .local) (hz : X.env.scope.names.lookup z = some .local)
    (hw : swappedStores [.Tuple [.Name x px, .Name y py, .Name z pz] kt pt] (.Tuple [a, b, c] k2 pt2) X.env = pure (some [x, y, z])) (hs : swapsWithSole [.Tuple [.Name x px, .Name y py, .Name z pz] kt pt] (.Tuple [a, b, c] k2 pt2) pos.line X.env = pure false)
    (q : RA X [a, b, c] σ H fun vs H1 => ∃ u v w, vs = [u, v, w] ∧ nx (setN X.N (setN X.N (setN X.N σ x u) y v) z w) H1) : RS X (.Assign [.Tuple [.Name x px, .Name y py, .Name z pz] kt pt] (.Tuple [a, b, c] k2 pt2) pos) ⟨nx, rt', bk, ct⟩ σ H := by
  obtain ⟨i, h1⟩ := idx_of hi
  obtain ⟨j, h2⟩ := idx_of hj
  obtain ⟨l, h3⟩ := idx_of hl
  refine rs_of (ps_par3 hc hN h1 h2 h3 (fun e => hxy (by rw [e] at h1; exact Option.some.inj (h1.symm.trans h2))) (fun e => hxz (by rw [e] at h1; exact Option.some.inj (h1.symm.trans h3))) (fun e => hyz (by rw [e] at h2; exact Option.some.inj (h2.symm.trans h3))) hx hy hz (ra _) hw hs) ?_
  have e1 : (fun vs H1 => ∃ u v w, vs = [u, v, w] ∧ nx (setN X.N (setN X.N (setN X.N σ x u) y v) z w) H1) = fun vs H1 => ∃ u v w, vs = [u, v, w] ∧ nx (((σ.set i (some u)).set j (some v)).set l (some w)) H1 := by
    funext vs H1
    simp only [setN_eq h1 hN, setN_eq h2 hN, setN_eq h3 hN]
  rw [e1] at q
  exact q
end
end Sx

end
section -- Se
set_option maxRecDepth 100000
set_option maxHeartbeats 4000000
namespace PySem
open Sem (wp)
theorem sx_enum_newB {v : Value} {o : Obj} {H : Heap → Prop} (B : Begins v o H) :
    Meets (Builtin.«enumerate.__new__» ⟨[.type "enumerate", v], []⟩) (fun _ R s => H s.heap ∧
      R (.ok (.ret (.ref (s.heap.push o).objs.size))) { s with heap := (s.heap.push o).push { cls := .type "enumerate", data := .fields #[.none, .bool false, .ref s.heap.objs.size, rawInt 0, .none, .none] } }) :=
  .of_wp fun prog w A R s h => by
    obtain ⟨hp, g, d, tk, os⟩ := s; obtain ⟨h1, h⟩ := h
    have hsub := sub_enumerate
    have q1 : ∀ {A' : Around} {E : Value → Shared → Prop} {Q : Value → Shared → Prop}, Q (.ref hp.objs.size) ⟨hp.push o, g, d, tk, os⟩ → wpAny (model prog w) A' (pyIter v) Q E ⟨hp, g, d, tk, os⟩ :=
      fun q => B.iter prog w _ _ ⟨hp, g, d, tk, os⟩ _ h1 q
    wp_walk using q1
    refine wpAny_stack_any fun st => wpAny_pure ?_
    split
    · rename_i c _ _ _ _ _
      cases (c == Value.type "enumerate") <;> (wp_walk using q1; exact ⟨_, rfl, h⟩)
    · wp_walk using q1
      exact ⟨_, rfl, h⟩
theorem sx_enum_begins {prog : Program} {w : World} {A : Around} {E : Value → Shared → Prop} {s : Shared} {v : Value} {o : Obj} {H : Heap → Prop} {Q : Value → Shared → Prop} (B : Begins v o H) (h1 : H s.heap)
    (h : ∀ h', IsEnum h' (s.heap.objs.size + 1) s.heap.objs.size 0 .none → h'.get? s.heap.objs.size = some o → h'.objs.size = s.heap.objs.size + 2 →
      (∀ b o, s.heap.get? b = some o → h'.get? b = some o) → Q (.ref (s.heap.objs.size + 1)) { s with heap := h' }) : wpAny (model prog w) A (call (.type "enumerate") [v]) Q E s := by
  refine callType_new F.called_enumerate (by decide) (F.typeCall_enumerate_1 _) (F.newCall_enumerate_1 _) (fun obj => F.args_object_init_2 obj _) F.entry_enumerate_new (sx_enum_newB B) ⟨h1, ?_⟩
  have hz : (s.heap.push o).objs.size = s.heap.objs.size + 1 := Heap.size_push ..
  show _ ∧ _
  rw [hz]
  have he : IsEnum ((s.heap.push o).push { cls := .type "enumerate", data := .fields #[.none, .bool false, .ref s.heap.objs.size, rawInt 0, .none, .none] }) (s.heap.objs.size + 1) s.heap.objs.size 0 .none := by
    have := Heap.get?_push_size (s.heap.push o) (o := { cls := .type "enumerate", data := .fields #[.none, .bool false, .ref s.heap.objs.size, rawInt 0, .none, .none] }) rfl
    rw [hz] at this; exact this
  refine ⟨⟨_, he, rfl⟩, h _ he (Heap.get?_push_of_some _ (Heap.get?_push_size _ B.free)) (by rw [Heap.size_push, hz]) fun b o x => Heap.get?_push_of_some _ (Heap.get?_push_of_some _ x)⟩
end PySem
namespace Sx
open PySem PySem.Spec L2
open PyProof.Rows hiding St

/-- a tuple's items, each in a new pair with its place -/
def IteT (K : PySem.W.Frag) (a : Addr) : It :=
  ⟨fun i H => ∃ (xs : List V) (x : V), SqT K H a xs ∧ xs[i]? = some x, fun i H v H' => ∃ T x, v = .ref T ∧ H T = none ∧ H' = upd H T (.tup [.int (i : Nat), x]) ∧ ∀ xs, SqT K H a xs → xs[i]? = some x, fun i H => ∃ xs : List V, SqT K H a xs ∧ xs.length ≤ i⟩
theorem turn_enumT {P : Program} {w : World} {K : PySem.W.Frag} {elts : List Expr} {kk : Nat} {tpos : Pos} (a e it : Addr) :
    Turn P w K (.Tuple elts kk tpos) (IteT K a) [e, it] e (fun i h => (∃ old, IsEnum h e it ((i : Nat) : Int) old) ∧ h.IsTupleIter it a i ∧ e ≠ it ∧ a ≠ it ∧ a ≠ e) where
  mem := by simp
  obj := fun i h st b hb => by
    obtain ⟨⟨old, he⟩, ⟨o, ho, hc, hd⟩, _⟩ := st
    have e' : b = e ∨ b = it := by simpa using hb
    rcases e' with z | z
    · rw [z]; exact ⟨_, he, fun v q => nomatch q⟩
    · rw [z]; exact ⟨o, ho, fun v q => by rw [hd] at q; cases q⟩
  keep := fun i h h' st k => let ⟨⟨old, he⟩, hi, hne⟩ := st; ⟨⟨old, k e (by simp) _ he⟩, hi.at fun o q => k it (by simp) o q, hne⟩
  item := by
    intro X hP hw hK hc i pins s σ H E I hf st hg
    subst hP hw hK
    obtain ⟨⟨old, he⟩, hit, hne, hai, hae⟩ := st
    obtain ⟨xs, x, hq, hx⟩ := hg
    obtain ⟨its, rv, p, hz⟩ := I.tuple hq
    obtain ⟨u, hu, ru⟩ := rv.get hx
    have hel : e < s.heap.objs.size := Heap.lt_size he
    have hil : it < s.heap.objs.size := by obtain ⟨_, q, _⟩ := hit; exact Heap.lt_size q
    have hlt : i < its.toArray.size := by
      obtain ⟨h1, _⟩ := List.getElem?_eq_some_iff.mp hu
      simpa using h1
    refine wpAny_pyNext_enum_itemD (Draws.tuple (A := X.A.in1) (show X.A.in1.handled = none from I.ok.hd hc) it a hai its.toArray) he ⟨hit, p⟩ hlt hne (by simp [hne, Ne.symm hae]) fun x' h' tk hx' ho hit' hT hsz hk => ?_
    have ex : x' = u := by
      have e1 : its.toArray[i]? = some u := by simpa using hu
      rw [e1] at hx'
      exact (Option.some.inj hx').symm
    subst ex
    refine ⟨_, rfl, wpAny_letOwnedTupleGo_enum (s := { s with heap := h', toks := tk + 1 }) ho fun h'' he' sb => ?_⟩
    have hT2 : h''.get? s.heap.objs.size = some { cls := .type "tuple", data := .seq #[.int i tk, x'] } := (sb.2 _ (Nat.ne_of_gt hel)).trans hT
    have new : ObjOk X.prog X.w (upd H s.heap.objs.size (.tup [.int (i : Nat), x])) h'' s.heap.objs.size (.tup [.int (i : Nat), x]) :=
      ⟨by show 2 ≤ sizeLine; decide, [.int i tk, x'], .cons ⟨_, rfl⟩ (.cons ru .nil), ⟨_, hT2, rfl, _, rfl⟩⟩
    have I1 : Inv X pins σ (upd H s.heap.objs.size (.tup [.int (i : Nat), x])) { s with heap := h'', toks := tk + 1 } :=
      I.turnedNew (ch := [e, it]) (fun b ob hb q => (sb.2 b (fun z => hb (by simp [z]))).trans (hk b ob (fun z => hb (by simp [z])) (fun z => hb (by simp [z])) q)) hf (Nat.le_refl _) new
    refine ⟨.ref s.heap.objs.size, _, I1, rfl, ⟨_, x, rfl, I.hok.fresh (Nat.le_refl _), rfl, fun ys hy => by rw [I.tuple_inj hy hq]; exact hx⟩, ⟨⟨x', ?_⟩, hit'.1.at fun o q => (sb.2 it (Ne.symm hne)).trans q, hne, hai, hae⟩, fun b hb => ?_⟩
    · have e1 : ((i + 1 : Nat) : Int) = (i : Int) + 1 := by omega
      rw [e1]; exact he'
    · have hb' : b < s.heap.objs.size := by
        have e' : b = e ∨ b = it := by simpa using hb
        rcases e' with z | z
        · rw [z]; exact hel
        · rw [z]; exact hil
      rw [upd_ne (Nat.ne_of_lt hb')]
      exact (hf b hb).1
  done := by
    intro X hP hw hK hc i pins s σ H E I hf st hg
    subst hP hw hK
    obtain ⟨⟨old, he⟩, hit, hne, hai, hae⟩ := st
    obtain ⟨xs, hq, hx⟩ := hg
    obtain ⟨its, rv, p, hz⟩ := I.tuple hq
    obtain ⟨f0, f1, f2, f3, f4, f5⟩ := hf it (by simp)
    have hl := rv.length
    unfold pyNext
    refine wpAny_bind (wpAny_attempt (wpAny_callSpecial?_slot (name := Str.ofString "__next__") ⟨_, he, rfl⟩ PySem.F.slot_enumerate_next
      (wpAny_call_entry PySem.F.slot_enumerate_next ⟨_, he, rfl⟩ PySem.F.entry_enumerate_next ?_ (PySem.F.args_enumerate_next_1 _))))
    show wpAny _ _ (field (.ref e) 2 >>= _) _ _ _
    refine wpAny_bind (wpAny_field he rfl (x := .ref it) rfl ?_)
    refine wpAny_bind (wpAny_nextOf_tuple_end (I.ok.hd hc) hit p (by simp; omega) fun h' x he' hx' => ?_)
    obtain ⟨o, ho, hc'⟩ := hx'
    refine wpAny_bind (wpAny_isInstance (T := "StopIteration") (b := true) ⟨o, ho, hc'⟩ isSubtype_stop ?_)
    exact wpAny_pure ⟨rfl, I.turned (t' := s.toks) (fun b o hb q => he' b o hb q) f0 f1 f3 f4 f5⟩
  self := fun A i s Q E st h => let ⟨⟨_, he⟩, _⟩ := st; wpAny_pyIter_enum he h

section
variable {X : Cx} {e l : Expr} {es : List Expr} {body : List Stmt} {σ : St} {H : Hp} {pos p p' tpos : Pos} {nx bk ct : St → Hp → Prop} {rt' : VK} {elts : List Expr} {kk : Nat}
def iEnumT (K : PySem.W.Frag) (ta : TA) : TI := fun σ H R => ta σ H fun vs H1 => ∃ a xs, vs = [.ref a] ∧ SqT K H1 a xs ∧ R (IteT K a) H1
theorem pi_enumT {ta : TA} (hg : Gl X "enumerate") (hm : X.mg "enumerate" = none) (ha : PA X [e] ta) (hs : starEach [e] X.env = [(false, eval e X.env)]) : PI X (.Tuple elts kk tpos) (.Call (.Name "enumerate" p) [e] [] pos) (iEnumT X.K ta) := by
  refine ⟨fun pins s σ H R I h => ?_⟩
  refine Call_ (ld_blt I hg hm boot_enumerate (PyProof.Rows.callWith_type1 (thn (ha.run pos pins s σ H _ I h) fun us s1 ⟨vs, H1, I1, r1, q1⟩ => ?_) hs rfl))
  obtain ⟨a, xs, ex, hq, q⟩ := q1
  subst ex
  cases r1 with
  | cons r rr =>
    cases rr
    cases r
    obtain ⟨its, rv, p', hz⟩ := I1.tuple hq
    refine PySem.sx_enum_begins (begins_tuple a its.toArray) p' fun h' he hit hsz hk => wpAny_pyIter_enum he ?_
    have I2 : Inv X pins σ H1 { s1 with heap := h' } := I1.kept (t' := s1.toks) hk
    have hal : a < s1.heap.objs.size := p'.lt
    refine ⟨s1.heap.objs.size + 1, [s1.heap.objs.size + 1, s1.heap.objs.size], _, _, H1, rfl, I2, turn_enumT a (s1.heap.objs.size + 1) s1.heap.objs.size, ⟨⟨.none, he⟩, ⟨_, hit, rfl, rfl⟩, Nat.succ_ne_self _, Nat.ne_of_lt hal, Nat.ne_of_lt (Nat.lt_succ_of_lt hal)⟩, fun b hb => ?_, q⟩
    have e' : b = s1.heap.objs.size + 1 ∨ b = s1.heap.objs.size := by simpa using hb
    have hle : s1.heap.objs.size ≤ b := by
      rcases e' with z | z
      · rw [z]; exact Nat.le_add_right _ _
      · rw [z]; exact Nat.le_refl _
    exact I1.fpOk hle (I1.hok.fresh hle)
/-- for i, x in enumerate(t), t a tuple -/
def ForET (X : Cx) (tg : Expr) (body : List Stmt) (nx : St → Hp → Prop) (rt' : VK) (σ : St) (vs : List V) (H1 : Hp) : Prop := ∃ a xs, vs = [.ref a] ∧ SqT X.K H1 a xs ∧ ForJ X tg body nx rt' σ (IteT X.K a) H1
theorem s_forET (hp : PassesOwn (model X.prog X.w) X.A X.env X.xe) (hc : X.calm = true) (B : Blt X.mg) (hg : Gl X "enumerate") (hs : starEach [e] X.env = [(false, eval e X.env)]) (q : RA X [e] σ H fun vs H1 => ForET X (.Tuple elts kk tpos) body nx rt' σ vs H1) :
    RS X (.For (.Tuple elts kk tpos) (.Call (.Name "enumerate" p) [e] [] p') body [] pos) ⟨nx, rt', bk, ct⟩ σ H := s_forI (fun _ => rfl) hp hc (pi_enumT hg B.enumerate (ra [e]) hs) q
theorem forET {tg : Expr} {a : Addr} {xs : List V} (h : SqT X.K H a xs) (Pv : Nat → St → Hp → Prop) (h0 : Pv 0 σ H) (hl : ∀ i σ H, i ≤ xs.length → Pv i σ H → SqT X.K H a xs)
    (hs : ∀ i x σ H T, xs[i]? = some x → Pv i σ H → H T = none → RG X tg (.ref T) σ (upd H T (.tup [.int (i : Nat), x])) fun σ2 H2 => RSs X body ⟨Pv (i + 1), rt', nx, Pv (i + 1)⟩ σ2 H2) (hd : ∀ σ H, Pv xs.length σ H → nx σ H) : ForET X tg body nx rt' σ [.ref a] H := by
  refine ⟨a, xs, rfl, h, fun i m σ H => m = xs.length - i ∧ i ≤ xs.length ∧ Pv i σ H, ⟨xs.length, by simp, Nat.zero_le _, h0⟩, ?_⟩
  rintro i m σ H ⟨rfl, hi, p⟩
  have q := hl i σ H hi p
  by_cases hlt : i < xs.length
  · refine .inr ⟨⟨xs, xs[i], q, by simp [hlt]⟩, Pv (i + 1), fun σ' H' p' => ⟨xs.length - (i + 1), by omega, rfl, hlt, p'⟩, fun v H' y => ?_⟩
    obtain ⟨T, x, rfl, hT, rfl, f⟩ := y
    exact hs i x σ H T (f xs q) p hT
  · have e : i = xs.length := by omega
    subst e
    exact .inl ⟨⟨xs, q, Nat.le_refl _⟩, hd σ H p⟩
end
end Sx

end
section -- Mx
set_option maxHeartbeats 4000000
/-! ascending lists of numbers -/
namespace Mx
theorem asc_len : ∀ {row : List Nat} {n : Nat}, row.Pairwise (· < ·) → (∀ k ∈ row, k < n) → row.length ≤ n := by
  intro row n h1 h2
  have nd : row.Nodup := h1.imp (fun h => Nat.ne_of_lt h)
  have := List.Nodup.length_le_of_subset nd (l₂ := List.range n) (fun k hk => List.mem_range.mpr (h2 k hk))
  rwa [List.length_range] at this
/-- two ascending lists with the same members are one -/
theorem asc_ext : ∀ {a b : List Nat}, a.Pairwise (· < ·) → b.Pairwise (· < ·) → (∀ k, k ∈ a ↔ k ∈ b) → a = b
  | [], [], _, _, _ => rfl
  | [], y :: b, _, _, h => absurd ((h y).mpr (by simp)) (by simp)
  | x :: a, [], _, _, h => absurd ((h x).mp (by simp)) (by simp)
  | x :: a, y :: b, ha, hb, h => by
    rw [List.pairwise_cons] at ha hb
    have exy : x = y := by
      rcases List.mem_cons.mp ((h x).mp (by simp)) with e | e
      · exact e
      · rcases List.mem_cons.mp ((h y).mpr (by simp)) with e' | e'
        · exact e'.symm
        · have h1 := hb.1 x e
          have h2 := ha.1 y e'
          omega
    subst exy
    rw [asc_ext ha.2 hb.2 fun k => ?_]
    constructor
    · intro hk
      rcases List.mem_cons.mp ((h k).mp (List.mem_cons_of_mem _ hk)) with e | e
      · subst e
        exact absurd (ha.1 k hk) (Nat.lt_irrefl _)
      · exact e
    · intro hk
      rcases List.mem_cons.mp ((h k).mpr (List.mem_cons_of_mem _ hk)) with e | e
      · subst e
        exact absurd (hb.1 k hk) (Nat.lt_irrefl _)
      · exact e
/-- the numbers below n with p, ascending -/
theorem asc_filter (n : Nat) (p : Nat → Bool) : ((List.range n).filter p).Pairwise (· < ·) := List.Pairwise.filter _ List.pairwise_lt_range
theorem mem_filter_range {n k : Nat} {p : Nat → Bool} : k ∈ (List.range n).filter p ↔ k < n ∧ p k = true := by
  rw [List.mem_filter, List.mem_range]
end Mx

end
section -- Bx
set_option maxRecDepth 100000
set_option maxHeartbeats 4000000
namespace Mx
/-! ### sets of hours as numbers -/
def maskN (hs : List Nat) : Nat := hs.foldl (fun m h => m ||| 1 <<< h) 0
def bitsL (m : Nat) : List Nat := (List.range (m.log2 + 1)).filter fun k => m.testBit k
theorem testBit_one_shl (h k : Nat) : (1 <<< h).testBit k = decide (h = k) := by
  rw [Nat.testBit_shiftLeft]
  by_cases e : h = k
  · subst e
    simp
  · by_cases l : h ≤ k
    · have : k - h ≠ 0 := by omega
      have h2 : Nat.testBit 1 (k - h) = false := Nat.testBit_lt_two_pow (by have := Nat.one_lt_two_pow (n := k - h) this; omega)
      simp [e, l, h2]
    · simp [e, l]
theorem testBit_fold (hs : List Nat) : ∀ (m k : Nat), (hs.foldl (fun m h => m ||| 1 <<< h) m).testBit k = (m.testBit k || decide (k ∈ hs)) := by
  induction hs with
  | nil => intro m k; simp
  | cons h t ih =>
    intro m k
    rw [List.foldl_cons, ih, Nat.testBit_or, testBit_one_shl]
    by_cases e : h = k
    · subst e; simp
    · have e' : k ≠ h := fun z => e z.symm
      simp [e, e']
theorem testBit_maskN (hs : List Nat) (k : Nat) : (maskN hs).testBit k = decide (k ∈ hs) := by
  unfold maskN
  rw [testBit_fold]
  simp
theorem lt_of_testBit {m k : Nat} (h : m.testBit k = true) : k < m.log2 + 1 := by
  have h1 := Nat.ge_two_pow_of_testBit h
  have h2 : m ≠ 0 := by
    have := Nat.two_pow_pos k
    omega
  have := (Nat.le_log2 h2).mpr h1
  omega
theorem mem_bitsL {m k : Nat} : k ∈ bitsL m ↔ m.testBit k = true := by
  unfold bitsL
  rw [mem_filter_range]
  exact ⟨fun h => h.2, fun h => ⟨lt_of_testBit h, h⟩⟩
theorem asc_bitsL (m : Nat) : (bitsL m).Pairwise (· < ·) := asc_filter _ _
theorem bitsL_maskN {row : List Nat} (h : row.Pairwise (· < ·)) : bitsL (maskN row) = row :=
  asc_ext (asc_bitsL _) h fun k => by rw [mem_bitsL, testBit_maskN, decide_eq_true_eq]
theorem maskN_bitsL (m : Nat) : maskN (bitsL m) = m := Nat.eq_of_testBit_eq fun k => by
  rw [testBit_maskN]
  by_cases h : m.testBit k = true
  · rw [h, decide_eq_true (mem_bitsL.mpr h)]
  · rw [decide_eq_false (fun z => h (mem_bitsL.mp z))]
    simpa using h
theorem bits_lt {m n k : Nat} (hm : m < 2 ^ n) (h : m.testBit k = true) : k < n := by
  rcases Nat.lt_or_ge k n with z | z
  · exact z
  · rw [Nat.testBit_lt_two_pow (Nat.lt_of_lt_of_le hm (Nat.pow_le_pow_right (by decide) z))] at h
    cases h
theorem lt_of_bits {m n : Nat} (h : ∀ k, m.testBit k = true → k < n) : m < 2 ^ n :=
  Nat.lt_pow_two_of_testBit m fun i hi => by
    cases e : m.testBit i with
    | false => rfl
    | true => exact absurd (h i e) (by omega)
theorem maskN_lt {row : List Nat} {n : Nat} (h : ∀ k ∈ row, k < n) : maskN row < 2 ^ n := lt_of_bits fun k hk => by
  rw [testBit_maskN, decide_eq_true_eq] at hk
  exact h k hk
/-- hours from n to 2 n taken by their remainder -/
def wrapN (n m : Nat) : Nat := (m ||| m >>> n) &&& (1 <<< n - 1)
theorem testBit_wrapN (n m k : Nat) : (wrapN n m).testBit k = (decide (k < n) && (m.testBit k || m.testBit (n + k))) := by
  unfold wrapN
  rw [Nat.testBit_and, Nat.testBit_or, Nat.testBit_shiftRight, Nat.one_shiftLeft, Nat.testBit_two_pow_sub_one, Bool.and_comm]
theorem wrapN_lt (n m : Nat) : wrapN n m < 2 ^ n := lt_of_bits fun k hk => by
  rw [testBit_wrapN] at hk
  simp at hk
  exact hk.1
/-- sums of a mask and hours -/
def orShl (one : Nat) (hs : List Nat) : Nat := hs.foldl (fun t h => t ||| one <<< h) 0
theorem testBit_orShl_aux (one : Nat) (hs : List Nat) : ∀ t k : Nat, (hs.foldl (fun t h => t ||| one <<< h) t).testBit k = true ↔ (t.testBit k = true ∨ ∃ h ∈ hs, h ≤ k ∧ one.testBit (k - h) = true) := by
  induction hs with
  | nil => intro t k; simp
  | cons h r ih =>
    intro t k
    rw [List.foldl_cons, ih, Nat.testBit_or, Nat.testBit_shiftLeft]
    simp only [Bool.or_eq_true, Bool.and_eq_true, decide_eq_true_eq, List.mem_cons]
    constructor
    · rintro ((h1 | h1) | ⟨x, hx, h2⟩)
      · exact .inl h1
      · exact .inr ⟨h, .inl rfl, h1.1, h1.2⟩
      · exact .inr ⟨x, .inr hx, h2⟩
    · rintro (h1 | ⟨x, hx, h2⟩)
      · exact .inl (.inl h1)
      · rcases hx with rfl | hx
        · exact .inl (.inr ⟨h2.1, h2.2⟩)
        · exact .inr ⟨x, hx, h2⟩
theorem testBit_orShl (one : Nat) (hs : List Nat) (k : Nat) : (orShl one hs).testBit k = true ↔ ∃ h ∈ hs, h ≤ k ∧ one.testBit (k - h) = true := by
  unfold orShl
  rw [testBit_orShl_aux]
  simp
def sumsN (n one other : Nat) : Nat := wrapN n (orShl one (bitsL other))
/-- the sums of two rows of hours -/
theorem mem_sums {n : Nat} {a b : List Nat} (ha : ∀ k ∈ a, k < n) (hb : ∀ k ∈ b, k < n) (k : Nat) : k ∈ bitsL (sumsN n (maskN a) (maskN b)) ↔ ∃ x ∈ a, ∃ y ∈ b, (x + y) % n = k ∧ k < n := by
  rw [mem_bitsL]
  unfold sumsN
  rw [testBit_wrapN]
  simp only [Bool.and_eq_true, Bool.or_eq_true, decide_eq_true_eq, testBit_orShl, mem_bitsL, testBit_maskN]
  constructor
  · rintro ⟨hk, (⟨y, hy, hle, hx⟩ | ⟨y, hy, hle, hx⟩)⟩
    · exact ⟨k - y, hx, y, hy, by rw [Nat.sub_add_cancel hle, Nat.mod_eq_of_lt hk], hk⟩
    · exact ⟨n + k - y, hx, y, hy, by rw [Nat.sub_add_cancel hle, Nat.add_mod_left, Nat.mod_eq_of_lt hk], hk⟩
  · rintro ⟨x, hx, y, hy, e, hk⟩
    have h1 := ha x hx
    have h2 := hb y hy
    refine ⟨hk, ?_⟩
    by_cases l : x + y < n
    · rw [Nat.mod_eq_of_lt l] at e
      exact .inl ⟨y, hy, by omega, by rw [show k - y = x by omega]; exact hx⟩
    · have e' : x + y - n = k := by
        rw [Nat.mod_eq_sub_mod (by omega), Nat.mod_eq_of_lt (by omega)] at e
        exact e
      exact .inr ⟨y, hy, by omega, by rw [show n + k - y = x by omega]; exact hx⟩
/-- moved -/
def turnN (n m : Nat) (by_ : Nat) : Nat := wrapN n (m <<< by_)
theorem mem_turn {n b : Nat} {a : List Nat} (ha : ∀ k ∈ a, k < n) (hb : b < n) (k : Nat) : k ∈ bitsL (turnN n (maskN a) b) ↔ ∃ x ∈ a, (x + b) % n = k ∧ k < n := by
  rw [mem_bitsL]
  unfold turnN
  rw [testBit_wrapN, Nat.testBit_shiftLeft, Nat.testBit_shiftLeft]
  simp only [Bool.and_eq_true, Bool.or_eq_true, decide_eq_true_eq, testBit_maskN]
  constructor
  · rintro ⟨hk, (⟨hle, hx⟩ | ⟨hle, hx⟩)⟩
    · exact ⟨k - b, hx, by rw [Nat.sub_add_cancel hle, Nat.mod_eq_of_lt hk], hk⟩
    · exact ⟨n + k - b, hx, by rw [Nat.sub_add_cancel hle, Nat.add_mod_left, Nat.mod_eq_of_lt hk], hk⟩
  · rintro ⟨x, hx, e, hk⟩
    have h1 := ha x hx
    refine ⟨hk, ?_⟩
    by_cases l : x + b < n
    · rw [Nat.mod_eq_of_lt l] at e
      exact .inl ⟨by omega, by rw [show k - b = x by omega]; exact hx⟩
    · have e' : x + b - n = k := by
        rw [Nat.mod_eq_sub_mod (by omega), Nat.mod_eq_of_lt (by omega)] at e
        exact e
      exact .inr ⟨by omega, by rw [show n + k - b = x by omega]; exact hx⟩
theorem mem_or {a b : List Nat} (k : Nat) : k ∈ bitsL (maskN a ||| maskN b) ↔ k ∈ a ∨ k ∈ b := by
  rw [mem_bitsL, Nat.testBit_or, testBit_maskN, testBit_maskN]
  simp
theorem mem_and {a b : List Nat} (k : Nat) : k ∈ bitsL (maskN a &&& maskN b) ↔ k ∈ a ∧ k ∈ b := by
  rw [mem_bitsL, Nat.testBit_and, testBit_maskN, testBit_maskN]
  simp
theorem mem_xor {n : Nat} {a : List Nat} (ha : ∀ k ∈ a, k < n) (k : Nat) : k ∈ bitsL (maskN a ^^^ (1 <<< n - 1)) ↔ k < n ∧ k ∉ a := by
  rw [mem_bitsL, Nat.testBit_xor, testBit_maskN, Nat.one_shiftLeft, Nat.testBit_two_pow_sub_one]
  by_cases h1 : k ∈ a
  · simp [h1, ha k h1]
  · simp [h1]
theorem mem_mask {hs : List Nat} (k : Nat) : k ∈ bitsL (maskN hs) ↔ k ∈ hs := by
  rw [mem_bitsL, testBit_maskN, decide_eq_true_eq]
end Mx
namespace Sx
open PySem PySem.Spec L2
open PyProof.Rows hiding St
section
variable {X : Cx} {a b : Nat} {H : Hp} {Q : VK} {QB : Bool → Hp → Prop}
theorem o_orN (q : Q (.int ((a ||| b : Nat) : Int)) H) : RO X (binaryOp .BitOr) (.int (a : Int)) (.int (b : Int)) H Q := o_or (by rw [Bits.bitOr_pp (Int.natCast_nonneg _) (Int.natCast_nonneg _)]; exact q)
theorem o_andN (q : Q (.int ((a &&& b : Nat) : Int)) H) : RO X (binaryOp .BitAnd) (.int (a : Int)) (.int (b : Int)) H Q := o_and (by rw [bitAnd_pp (Int.natCast_nonneg _) (Int.natCast_nonneg _)]; exact q)
theorem o_andOne (q : Q (.int ((a &&& 1 : Nat) : Int)) H) : RO X (binaryOp .BitAnd) (.int (a : Int)) (.int 1) H Q := o_andN (b := 1) q
theorem bit_dec (m i : Nat) : decide ((m >>> i &&& 1) ≠ 0) = m.testBit i := by
  show decide _ = ((1 &&& (m >>> i)) != 0)
  rw [Nat.and_comm]
  by_cases h : (1 &&& m >>> i) = 0
  · rw [h]; rfl
  · rw [decide_eq_true h]; exact (bne_iff_ne.mpr h).symm
theorem o_xorN (q : Q (.int ((a ^^^ b : Nat) : Int)) H) : RO X (binaryOp .BitXor) (.int (a : Int)) (.int (b : Int)) H Q := o_xor (by rw [Bits.bitXor_pp (Int.natCast_nonneg _) (Int.natCast_nonneg _)]; exact q)
theorem o_shrN (q : Q (.int ((a >>> b : Nat) : Int)) H) : RO X (binaryOp .RShift) (.int (a : Int)) (.int (b : Int)) H Q := o_shr (Int.natCast_nonneg _) (by
  rw [Int.toNat_natCast, show ((a : Int) / 2 ^ b) = ((a >>> b : Nat) : Int) by rw [Nat.shiftRight_eq_div_pow, Int.natCast_ediv, Int.natCast_pow]; rfl]
  exact q)
theorem o_shlN {n : Nat} (ha : a < 2 ^ n) (hb : n + b ≤ 134217728) (q : Q (.int ((a <<< b : Nat) : Int)) H) : RO X (binaryOp .LShift) (.int (a : Int)) (.int (b : Int)) H Q := o_shl (shl_ok (n := n) (by simpa using ha) hb) (by
  rw [Int.toNat_natCast, show ((a : Int) * 2 ^ b) = ((a <<< b : Nat) : Int) by rw [Nat.shiftLeft_eq, Int.natCast_mul, Int.natCast_pow]; rfl]
  exact q)
theorem o_oneShl (hb : b ≤ 1000000) (q : Q (.int ((1 <<< b : Nat) : Int)) H) : RO X (binaryOp .LShift) (.int 1) (.int (b : Int)) H Q := o_shlN (a := 1) (n := 1) (by decide) (by omega) q
theorem tr_nat (q : QB (decide (a ≠ 0)) H) : RTru X (.int (a : Int)) H QB := tr_int (by
  have e : ((a : Int) != 0) = decide (a ≠ 0) := by
    by_cases h : a = 0
    · subst h; rfl
    · have : (a : Int) ≠ 0 := by omega
      simp [h, this]
  rw [e]
  exact q)
end
end Sx

end
section -- Dv
set_option maxRecDepth 100000
set_option maxHeartbeats 4000000
/-! Values without addresses: what stands behind a value of the layer, as long as nobody changes it. -/
namespace Dx
open PySem PySem.Spec L2 Sx
open PyProof.Rows hiding St

mutual
inductive D where
  | non | bl (b : Bool) | int (i : Int) | str (x : Str)
  | tup (xs : List D) | lst (xs : List D) | scr (xs : List D) | set (xs : List Int)
  | dct (kvs : List (Key × D))
  | ins (c : Str) (fs : List (Str × D))
  /-- a thing that nobody else holds; one that is lent -/
  | own (m : MV) | bor (m : MV)
  /-- a built-in class; a class, a def of the text -/
  | ty (n : String) | gl (n : Str) | fn (n : Str)
/-- what may change -/
inductive MV where
  | lst (xs : List D) | dct (kvs : List (Key × D)) | ins (c : Str) (fs : List (Str × D))
end

abbrev Rows := List D
/-- it changes no more -/
@[reducible] def MV.fz : MV → D
  | .lst xs => .lst xs
  | .dct kvs => .dct kvs
  | .ins c fs => .ins c fs
@[reducible] def D.fz : D → D
  | .own m => m.fz
  | d => d

/-- where the classes and the defs of the text stand -/
structure Nm where
  c : Str → Option Addr
  f : Str → Option Addr
/-- what is wanted of a class of the text -/
structure ClsF (K : PySem.W.Frag) (C : Addr) : Prop where
  isC : C8.InsC K C
  first : PySem.W.selfFirst K C = true
  ne : PySem.W.findIn K (.ref C) "__ne__" = some (some (.builtin "object.__ne__"))
  ob : PySem.W.subIn K (.ref C) (.type "object") = some true
  rm : PySem.W.findIn K (.ref C) (PySem.dunderR PySem.Operator.Mult.info.2) = some none
  im : ∃ o, PySem.W.findIn K (.type "int") (PySem.dunder PySem.Operator.Mult.info.2) = some o
  ir : ∃ o, PySem.W.findIn K (.type "int") (PySem.dunderR PySem.Operator.Mult.info.2) = some o
  ci : PySem.W.subIn K (.type "int") (.ref C) = some false
/-- the attributes of an instance stand in it alone -/
def GoodI (K : PySem.W.Frag) (C : Addr) (ns : List Str) : Prop := ClsF K C ∧ ∀ f ∈ ns, NoAttr K C f
mutual
inductive Rep (K : PySem.W.Frag) (w : World) (cl : Nm) (O : Addr → Prop) (H : Hp) : V → D → Prop where
  | non : Rep K w cl O H .non .non
  | bl (b : Bool) : Rep K w cl O H (.bl b) (.bl b)
  | int (i : Int) : Rep K w cl O H (.int i) (.int i)
  | str (x : Str) : Rep K w cl O H (.str x) (.str x)
  | ty (n : String) : Rep K w cl O H (.ty n) (.ty n)
  | gl {n : Str} {a : Addr} (h : cl.c n = some a) : Rep K w cl O H (.ref a) (.gl n)
  | fn {n : Str} {a : Addr} (h : cl.f n = some a) : Rep K w cl O H (.ref a) (.fn n)
  | tup {a : Addr} {xs : List V} {ds : List D} (h : Rd H a (.tup xs)) (n : ¬ O a) (r : RepL K w cl O H xs ds) : Rep K w cl O H (.ref a) (.tup ds)
  | tupK {a : Addr} {xs : List V} {ds : List D} (h : ∀ H : Hp, SqT K H a xs) (r : RepL K w cl O H xs ds) : Rep K w cl O H (.ref a) (.tup ds)
  | lst {a : Addr} {xs : List V} {ds : List D} (h : H a = some (.lst xs)) (n : ¬ O a) (r : RepL K w cl O H xs ds) : Rep K w cl O H (.ref a) (.lst ds)
  | scr {a : Addr} {xs : List V} {ds : List D} (h : Rd H a (.lst xs)) (n : ¬ O a) (r : RepL K w cl O H xs ds) : Rep K w cl O H (.ref a) (.scr ds)
  | scrK {a : Addr} {xs : List V} {ds : List D} (h : ∀ H : Hp, SqL K H a xs) (r : RepL K w cl O H xs ds) : Rep K w cl O H (.ref a) (.scr ds)
  | set {a : Addr} {ns : List Int} {ks : List Int} (h : H a = some (SetO w a (fun j => decide (j ∈ ns)) ks.length)) (nd : ks.Nodup) (m : ∀ k, k ∈ ks ↔ k ∈ ns) (n : ¬ O a) : Rep K w cl O H (.ref a) (.set ns)
  | dct {a : Addr} {kvs : List (Key × V)} {ds : List (Key × D)} (h : Rd H a (.dK kvs)) (n : ¬ O a) (k : kvs.map (·.1) = ds.map (·.1)) (r : RepL K w cl O H (kvs.map (·.2)) (ds.map (·.2))) : Rep K w cl O H (.ref a) (.dct ds)
  | ins {a C dx : Addr} {c : Str} {fs : List (Str × V)} {ds : List (Str × D)} (hc : cl.c c = some C) (g : GoodI K C (ds.map (·.1))) (h : H a = some (.ins C dx fs)) (n : ¬ O a) (k : fs.map (·.1) = ds.map (·.1)) (r : RepL K w cl O H (fs.map (·.2)) (ds.map (·.2))) : Rep K w cl O H (.ref a) (.ins c ds)
inductive RepL (K : PySem.W.Frag) (w : World) (cl : Nm) (O : Addr → Prop) (H : Hp) : List V → List D → Prop where
  | nil : RepL K w cl O H [] []
  | cons {v : V} {d : D} {vs : List V} {ds : List D} (r : Rep K w cl O H v d) (t : RepL K w cl O H vs ds) : RepL K w cl O H (v :: vs) (d :: ds)
end

section
variable {K : PySem.W.Frag} {w : World} {cl : Nm} {O O' : Addr → Prop} {H H' : Hp}
/-- from one state to a later one, for what stays -/
structure Kp (O : Addr → Prop) (H : Hp) (O' : Addr → Prop) (H' : Hp) : Prop where
  keep : ∀ b o, H b = some o → ¬ O b → H' b = some o
  none : ∀ b o, H b = some o → ¬ O b → ¬ O' b
theorem Kp.rd (k : Kp O H O' H') {a : Addr} {u : HO} (h : Rd H a u) (n : ¬ O a) : Rd H' a u ∧ ¬ O' a := by
  rcases h with h | ⟨o, h⟩
  · exact ⟨.inl (k.keep _ _ h n), k.none _ _ h n⟩
  · exact ⟨.inr ⟨o, k.keep _ _ h n⟩, k.none _ _ h n⟩
theorem Kp.refl : Kp O H O H := ⟨fun _ _ h _ => h, fun _ _ _ n => n⟩
theorem Kp.trans {O2 : Addr → Prop} {H2 : Hp} (a : Kp O H O' H') (b : Kp O' H' O2 H2) : Kp O H O2 H2 :=
  ⟨fun c o h n => b.keep c o (a.keep c o h n) (a.none c o h n), fun c o h n => b.none c o (a.keep c o h n) (a.none c o h n)⟩
theorem Kp.weak (h : ∀ b, O' b → O b) : Kp O H O' H := ⟨fun _ _ h _ => h, fun b _ _ n q => n (h b q)⟩
theorem Kp.new (h : ∀ b o, H b = some o → H' b = some o) : Kp O H O H' := ⟨fun b o e _ => h b o e, fun _ _ _ n => n⟩
mutual
theorem Rep.step (k : Kp O H O' H') : ∀ {v : V} {d : D}, Rep K w cl O H v d → Rep K w cl O' H' v d
  | _, _, .non => .non
  | _, _, .bl b => .bl b
  | _, _, .int i => .int i
  | _, _, .str x => .str x
  | _, _, .ty x => .ty x
  | _, _, .gl h => .gl h
  | _, _, .fn h => .fn h
  | _, _, .tup h n r => .tup (k.rd h n).1 (k.rd h n).2 (RepL.step k r)
  | _, _, .tupK h r => .tupK h (RepL.step k r)
  | _, _, .lst h n r => .lst (k.keep _ _ h n) (k.none _ _ h n) (RepL.step k r)
  | _, _, .scr h n r => .scr (k.rd h n).1 (k.rd h n).2 (RepL.step k r)
  | _, _, .scrK h r => .scrK h (RepL.step k r)
  | _, _, .set h nd m n => .set (k.keep _ _ h n) nd m (k.none _ _ h n)
  | _, _, .dct h n e r => .dct (k.rd h n).1 (k.rd h n).2 e (RepL.step k r)
  | _, _, .ins hc g h n e r => .ins hc g (k.keep _ _ h n) (k.none _ _ h n) e (RepL.step k r)
theorem RepL.step (k : Kp O H O' H') : ∀ {vs : List V} {ds : List D}, RepL K w cl O H vs ds → RepL K w cl O' H' vs ds
  | _, _, .nil => .nil
  | _, _, .cons r t => .cons (Rep.step k r) (RepL.step k t)
end
theorem RepL.len : ∀ {vs : List V} {ds : List D}, RepL K w cl O H vs ds → vs.length = ds.length
  | _, _, .nil => rfl
  | _, _, .cons _ t => by simp [RepL.len t]
theorem RepL.app : ∀ {vs us : List V} {ds es : List D}, RepL K w cl O H vs ds → RepL K w cl O H us es → RepL K w cl O H (vs ++ us) (ds ++ es)
  | _, _, _, _, .nil, q => q
  | _, _, _, _, .cons r t, q => .cons r (RepL.app t q)
theorem RepL.get : ∀ {vs : List V} {ds : List D} {i : Nat} {d : D}, RepL K w cl O H vs ds → ds[i]? = some d → ∃ v, vs[i]? = some v ∧ Rep K w cl O H v d
  | _, _, _, _, .nil, e => by simp at e
  | _, _, 0, _, .cons r _, e => by simp at e; subst e; exact ⟨_, rfl, r⟩
  | _, _, i + 1, _, .cons _ t, e => by
    obtain ⟨v, h1, h2⟩ := RepL.get t (i := i) (by simpa using e)
    exact ⟨v, by simpa using h1, h2⟩
theorem RepL.getV : ∀ {vs : List V} {ds : List D} {i : Nat} {v : V}, RepL K w cl O H vs ds → vs[i]? = some v → ∃ d, ds[i]? = some d ∧ Rep K w cl O H v d
  | _, _, _, _, .nil, e => by simp at e
  | _, _, 0, _, .cons r _, e => by simp at e; subst e; exact ⟨_, rfl, r⟩
  | _, _, i + 1, _, .cons _ t, e => by
    obtain ⟨v, h1, h2⟩ := RepL.getV t (i := i) (by simpa using e)
    exact ⟨v, by simpa using h1, h2⟩
theorem RepL.set : ∀ {vs : List V} {ds : List D} (i : Nat) {v : V} {d : D}, RepL K w cl O H vs ds → Rep K w cl O H v d → RepL K w cl O H (vs.set i v) (ds.set i d)
  | _, _, _, _, _, .nil, _ => .nil
  | _, _, 0, _, _, .cons _ t, q => .cons q t
  | _, _, i + 1, _, _, .cons r t, q => .cons r (RepL.set i t q)
theorem RepL.take : ∀ {vs : List V} {ds : List D} (i : Nat), RepL K w cl O H vs ds → RepL K w cl O H (vs.take i) (ds.take i)
  | _, _, 0, _ => .nil
  | _, _, i + 1, .nil => .nil
  | _, _, i + 1, .cons r t => .cons r (RepL.take i t)
theorem RepL.drop : ∀ {vs : List V} {ds : List D} (i : Nat), RepL K w cl O H vs ds → RepL K w cl O H (vs.drop i) (ds.drop i)
  | _, _, 0, r => r
  | _, _, i + 1, .nil => .nil
  | _, _, i + 1, .cons r t => RepL.drop i t
theorem RepL.rev : ∀ {vs : List V} {ds : List D}, RepL K w cl O H vs ds → RepL K w cl O H vs.reverse ds.reverse
  | _, _, .nil => .nil
  | _, _, .cons r t => by rw [List.reverse_cons, List.reverse_cons]; exact RepL.app (RepL.rev t) (.cons r .nil)
theorem RepL.ints : ∀ {vs : List V} {ns : List Int}, RepL K w cl O H vs (ns.map D.int) → vs = ns.map V.int
  | _, [], .nil => rfl
  | _, n :: ns, .cons r t => by
    cases r
    rw [RepL.ints t]
    rfl
theorem RepL.ofInts : ∀ (ns : List Int), RepL K w cl O H (ns.map V.int) (ns.map D.int)
  | [] => .nil
  | n :: ns => .cons (.int n) (RepL.ofInts ns)
theorem Rep.sqT {a : Addr} {ds : List D} (r : Rep K w cl O H (.ref a) (.tup ds)) : ∃ xs, SqT K H a xs ∧ RepL K w cl O H xs ds := by
  cases r with
  | tup h n r => exact ⟨_, .inl h, r⟩
  | tupK h r => exact ⟨_, h H, r⟩
theorem Rep.tupRef {v : V} {ds : List D} (r : Rep K w cl O H v (.tup ds)) : ∃ a xs, v = .ref a ∧ SqT K H a xs ∧ RepL K w cl O H xs ds := by
  cases r with
  | tup h n r => exact ⟨_, _, rfl, .inl h, r⟩
  | tupK h r => exact ⟨_, _, rfl, h H, r⟩
theorem Rep.lstRef {v : V} {ds : List D} (r : Rep K w cl O H v (.lst ds)) : ∃ a xs, v = .ref a ∧ SqL K H a xs ∧ RepL K w cl O H xs ds := by
  cases r with
  | lst h n r => exact ⟨_, _, rfl, .inl (.inl h), r⟩
theorem Rep.scrRef {v : V} {ds : List D} (r : Rep K w cl O H v (.scr ds)) : ∃ a xs, v = .ref a ∧ SqL K H a xs ∧ RepL K w cl O H xs ds := by
  cases r with
  | scr h n r => exact ⟨_, _, rfl, .inl h, r⟩
  | scrK h r => exact ⟨_, _, rfl, h H, r⟩
theorem Rep.intV {v : V} {i : Int} (r : Rep K w cl O H v (.int i)) : v = .int i := by cases r; rfl
theorem Rep.blV {v : V} {i : Bool} (r : Rep K w cl O H v (.bl i)) : v = .bl i := by cases r; rfl
theorem Rep.strV {v : V} {i : Str} (r : Rep K w cl O H v (.str i)) : v = .str i := by cases r; rfl
theorem Rep.nonV {v : V} (r : Rep K w cl O H v .non) : v = .non := by cases r; rfl
theorem Rep.tyV {v : V} {i : String} (r : Rep K w cl O H v (.ty i)) : v = .ty i := by cases r; rfl
theorem Rep.glV {v : V} {n : Str} (r : Rep K w cl O H v (.gl n)) : ∃ a, cl.c n = some a ∧ v = .ref a := by cases r with | gl h => exact ⟨_, h, rfl⟩
theorem Rep.noOwn {v : V} {m : MV} (r : Rep K w cl O H v (.own m)) : False := by cases r
theorem Rep.noBor {v : V} {m : MV} (r : Rep K w cl O H v (.bor m)) : False := by cases r
/-- a thing that may change, by what it holds -/
inductive MRep (K : PySem.W.Frag) (w : World) (cl : Nm) (O : Addr → Prop) (H : Hp) : HO → MV → Prop where
  | lst {vs : List V} {ds : List D} (r : RepL K w cl O H vs ds) : MRep K w cl O H (.lst vs) (.lst ds)
  | dct {kvs : List (Key × V)} {ds : List (Key × D)} (k : kvs.map (·.1) = ds.map (·.1)) (r : RepL K w cl O H (kvs.map (·.2)) (ds.map (·.2))) : MRep K w cl O H (.dK kvs) (.dct ds)
  | ins {C dx : Addr} {c : Str} {fs : List (Str × V)} {ds : List (Str × D)} (hc : cl.c c = some C) (g : GoodI K C (ds.map (·.1))) (k : fs.map (·.1) = ds.map (·.1)) (r : RepL K w cl O H (fs.map (·.2)) (ds.map (·.2))) : MRep K w cl O H (.ins C dx fs) (.ins c ds)
theorem MRep.step {o : HO} {m : MV} (r : MRep K w cl O H o m) (k : Kp O H O' H') : MRep K w cl O' H' o m := by
  cases r with
  | lst r => exact .lst (r.step k)
  | dct e r => exact .dct e (r.step k)
  | ins h g e r => exact .ins h g e (r.step k)
/-- a thing that may change -/
def chg : HO → Bool
  | .lst _ => true
  | .dK _ => true
  | .dT _ => true
  | .ins _ _ _ => true
  | _ => false
theorem MRep.chg {o : HO} {m : MV} (r : MRep K w cl O H o m) : chg o = true := by cases r <;> rfl
theorem MRep.fz {o : HO} {m : MV} {a : Addr} (r : MRep K w cl O H o m) (h : H a = some o) (n : ¬ O a) : Rep K w cl O H (.ref a) m.fz := by
  cases r with
  | lst r => exact .lst h n r
  | dct e r => exact .dct (.inl h) n e r
  | ins hc g e r => exact .ins hc g h n e r
theorem MRep.lstR {o : HO} {ds : List D} (r : MRep K w cl O H o (.lst ds)) : ∃ vs, o = .lst vs ∧ RepL K w cl O H vs ds := by
  cases r with
  | lst r => exact ⟨_, rfl, r⟩
end
end Dx

end
section -- Dk
set_option maxRecDepth 100000
set_option maxHeartbeats 4000000
/-! Where one stands: the slots by what they are worth; expressions. -/
namespace Dx
open PySem PySem.Spec L2 Sx
open PyProof.Rows hiding St

abbrev En := List (Option D)
abbrev Ch (H : Hp) (b : Addr) : Prop := ∃ o, H b = some o ∧ chg o = true
structure HF where
  P : (Addr → Prop) → Hp → Prop
  st : ∀ O H O' H', P O H → Kp O H O' H' → P O' H'
structure Fx where
  K : PySem.W.Frag
  w : World
  cl : Nm
  H0 : Hp
  B : Addr → Prop
  Out : Addr → Prop
  held : List HF
def Fx.out (F : Fx) (a : Addr) : Fx := { F with Out := fun b => F.Out b ∨ b = a }
def Fx.also (F : Fx) (hs : List HF) : Fx := { F with held := hs ++ F.held }
abbrev Fx.R (F : Fx) := Rep F.K F.w F.cl
abbrev Fx.L (F : Fx) := RepL F.K F.w F.cl
abbrev Fx.M (F : Fx) := MRep F.K F.w F.cl
/-- the slot holds a list that may change -/
def IsM (ρ : En) (i : Nat) : Prop := ∃ m, ρ[i]? = some (some (.own m)) ∨ ρ[i]? = some (some (.bor m))
def Mut (σ : St) (ρ : En) (b : Addr) : Prop := ∃ i, IsM ρ i ∧ σ[i]? = some (some (.ref b))
def Av (F : Fx) (σ : St) (ρ : En) (b : Addr) : Prop := F.Out b ∨ Mut σ ρ b
inductive Slot (F : Fx) (O : Addr → Prop) (H : Hp) : V → D → Prop where
  | own {a : Addr} {u : HO} {m : MV} (h : H a = some u) (n : F.H0 a = none) (o : ¬ F.Out a) (r : F.M O H u m) : Slot F O H (.ref a) (.own m)
  | bor {a : Addr} {u : HO} {m : MV} (h : H a = some u) (b : F.B a) (r : F.M O H u m) : Slot F O H (.ref a) (.bor m)
  | rep {v : V} {d : D} (r : F.R O H v d) : Slot F O H v d
structure Ok (F : Fx) (H : Hp) (σ : St) (ρ : En) : Prop where
  len : ρ.length = σ.length
  slot : ∀ (i : Nat) (d : D), ρ[i]? = some (some d) → ∃ v, σ[i]? = some (some v) ∧ Slot F (Av F σ ρ) H v d
  dist : ∀ (i j : Nat) (b : Addr), i ≠ j → IsM ρ i → IsM ρ j → σ[i]? = some (some (.ref b)) → σ[j]? = some (some (.ref b)) → False
  keep : ∀ b o, F.H0 b = some o → ¬ F.B b → H b = some o
  out : ∀ b, F.Out b → Ch H b
  bo : ∀ b, F.B b → F.Out b
  held : ∀ p ∈ F.held, p.P (Av F σ ρ) H
section
variable {F : Fx} {H H' : Hp} {σ : St} {ρ ρ' : En} {v : V} {d : D} {a p : Addr} {i : Nat}
theorem Slot.ref {O : Addr → Prop} {x : D} (h : Slot F O H v x) (m : (∃ ds, x = .own ds) ∨ ∃ ds, x = .bor ds) : ∃ a vs, v = .ref a ∧ H a = some vs ∧ chg vs = true := by
  cases h with
  | own h n o r => exact ⟨_, _, rfl, h, r.chg⟩
  | bor h n r => exact ⟨_, _, rfl, h, r.chg⟩
  | rep r =>
    rcases m with ⟨ds, rfl⟩ | ⟨ds, rfl⟩
    · exact r.noOwn.elim
    · exact r.noBor.elim
theorem Slot.step {O O' : Addr → Prop} {x : D} (h : Slot F O H v x) (k : Kp O H O' H') (m : ∀ a vs, v = .ref a → ((∃ ds, x = .own ds) ∨ ∃ ds, x = .bor ds) → H a = some vs → H' a = some vs) : Slot F O' H' v x := by
  cases h with
  | own h n o r => exact .own (m _ _ rfl (.inl ⟨_, rfl⟩) h) n o (r.step k)
  | bor h n r => exact .bor (m _ _ rfl (.inr ⟨_, rfl⟩) h) n (r.step k)
  | rep r => exact .rep (r.step k)
theorem Slot.fx {F' : Fx} {O : Addr → Prop} {x : D} (h : Slot F O H v x) (eK : F'.K = F.K) (ew : F'.w = F.w) (ec : F'.cl = F.cl) (e0 : F'.H0 = F.H0) (eB : F'.B = F.B) (eO : ∀ b, H b ≠ none → F'.Out b → F.Out b) : Slot F' O H v x := by
  cases h with
  | own h n o r => exact .own h (by rw [e0]; exact n) (fun q => o (eO _ (by rw [h]; simp) q)) (by unfold Fx.M; rw [eK, ew, ec]; exact r)
  | bor h n r => exact .bor h (by rw [eB]; exact n) (by unfold Fx.M; rw [eK, ew, ec]; exact r)
  | rep r => exact .rep (by unfold Fx.R; rw [eK, ew, ec]; exact r)
/-- what may change stands in the heap -/
theorem Ok.mut (ok : Ok F H σ ρ) {b : Addr} (m : Mut σ ρ b) : ∃ vs, H b = some vs ∧ chg vs = true := by
  obtain ⟨i, ⟨ds, hd⟩, hi⟩ := m
  rcases hd with hd | hd
  · obtain ⟨v, h1, h2⟩ := ok.slot i _ hd
    rw [hi] at h1
    cases h1
    obtain ⟨a, vs, e, h⟩ := h2.ref (.inl ⟨_, rfl⟩)
    cases e
    exact ⟨_, h⟩
  · obtain ⟨v, h1, h2⟩ := ok.slot i _ hd
    rw [hi] at h1
    cases h1
    obtain ⟨a, vs, e, h⟩ := h2.ref (.inr ⟨_, rfl⟩)
    cases e
    exact ⟨_, h⟩
theorem Ok.av (ok : Ok F H σ ρ) {b : Addr} (m : Av F σ ρ b) : Ch H b := by
  rcases m with m | m
  · exact ok.out b m
  · obtain ⟨vs, h, c⟩ := ok.mut m
    exact ⟨_, h, c⟩
theorem Ok.navn (ok : Ok F H σ ρ) (h : H p = none) : ¬ Av F σ ρ p := fun m => by
  obtain ⟨o, e, _⟩ := ok.av m
  rw [h] at e
  cases e
theorem Ok.n0 (ok : Ok F H σ ρ) (h : H p = none) : F.H0 p = none := by
  cases e : F.H0 p with
  | none => rfl
  | some o =>
    by_cases hb : F.B p
    · obtain ⟨o', e', _⟩ := ok.out p (ok.bo p hb)
      rw [h] at e'
      cases e'
    · have := ok.keep p o e hb
      rw [h] at this
      cases this
/-- from one heap to the next, with what may change unchanged -/
theorem Ok.grow (ok : Ok F H σ ρ) (g : ∀ b o, H b = some o → H' b = some o) : Ok F H' σ ρ where
  len := ok.len
  slot := fun i d h => by
    obtain ⟨v, h1, h2⟩ := ok.slot i d h
    exact ⟨v, h1, h2.step (.new g) fun a vs _ _ e => g _ _ e⟩
  dist := ok.dist
  keep := fun b o h n => g _ _ (ok.keep b o h n)
  out := fun b h => let ⟨o, e, c⟩ := ok.out b h; ⟨o, g _ _ e, c⟩
  bo := ok.bo
  held := fun p hp => p.st _ _ _ _ (ok.held p hp) (.new g)
theorem grow_upd {o : HO} (h : H p = none) : ∀ b u, H b = some u → upd H p o b = some u := fun b u e => by
  rw [upd_ne (ne_of_none e h)]
  exact e
theorem Ok.new {o : HO} (ok : Ok F H σ ρ) (h : H p = none) : Ok F (upd H p o) σ ρ := ok.grow (grow_upd h)
theorem Kp.mut (k : Kp (Mut σ ρ) H (Mut σ ρ') H') : Kp (Av F σ ρ) H (Av F σ ρ') H' :=
  ⟨fun b o h n => k.keep b o h fun m => n (.inr m), fun b o h n q => by
    rcases q with q | q
    · exact n (.inl q)
    · exact k.none b o h (fun m => n (.inr m)) q⟩
/-- the same frame, but for what is not to be met and what is held -/
structure Like (F' F : Fx) : Prop where
  K : F'.K = F.K
  w : F'.w = F.w
  cl : F'.cl = F.cl
  H0 : F'.H0 = F.H0
  B : F'.B = F.B
theorem Like.out : Like (F.out p) F := ⟨rfl, rfl, rfl, rfl, rfl⟩
theorem Like.out' : Like F (F.out p) := ⟨rfl, rfl, rfl, rfl, rfl⟩
theorem Like.also {hs : List HF} : Like (F.also hs) F := ⟨rfl, rfl, rfl, rfl, rfl⟩
theorem Like.also' {hs : List HF} : Like F (F.also hs) := ⟨rfl, rfl, rfl, rfl, rfl⟩
theorem Like.R {F' F : Fx} (L : Like F' F) {O : Addr → Prop} {x : D} (r : F.R O H v x) : F'.R O H v x := by unfold Fx.R; rw [L.K, L.w, L.cl]; exact r
theorem Like.M {F' F : Fx} (L : Like F' F) {O : Addr → Prop} {u : HO} {m : MV} (r : F.M O H u m) : F'.M O H u m := by unfold Fx.M; rw [L.K, L.w, L.cl]; exact r
theorem Like.L {F' F : Fx} (L : Like F' F) {O : Addr → Prop} {vs : List V} {x : List D} (r : F.L O H vs x) : F'.L O H vs x := by unfold Fx.L; rw [L.K, L.w, L.cl]; exact r
theorem Ok.move {F' : Fx} (ok : Ok F H σ ρ) (L : Like F' F) (g : ∀ b o, H b = some o → H' b = some o) (h1 : ∀ b o, H b = some o → F'.Out b → F.Out b) (h2 : ∀ b, F'.Out b → Ch H' b) (h3 : ∀ b, F.B b → F'.Out b)
    (h4 : ∀ p ∈ F'.held, p.P (Av F σ ρ) H) : Ok F' H' σ ρ := by
  have kp : Kp (Av F σ ρ) H (Av F' σ ρ) H' := ⟨fun b o e _ => g b o e, fun b o e n q => by
    rcases q with q | q
    · exact n (.inl (h1 b o e q))
    · exact n (.inr q)⟩
  exact {
    len := ok.len
    slot := fun i d hx => by
      obtain ⟨v, e1, e2⟩ := ok.slot i d hx
      refine ⟨v, e1, ?_⟩
      cases e2 with
      | own h n o r => exact .own (g _ _ h) (by rw [L.H0]; exact n) (fun q => o (h1 _ _ h q)) (L.M (r.step kp))
      | bor h b r => exact .bor (g _ _ h) (by rw [L.B]; exact b) (L.M (r.step kp))
      | rep r => exact .rep (L.R (r.step kp))
    dist := ok.dist
    keep := fun b o h n => g _ _ (ok.keep b o (by rw [← L.H0]; exact h) (by rw [← L.B]; exact n))
    out := h2
    bo := fun b h => h3 b (by rw [← L.B]; exact h)
    held := fun p hp => p.st _ _ _ _ (h4 p hp) kp }
/-- one more address that is not to be met -/
theorem Ok.addOut {o : HO} (ok : Ok F H σ ρ) (h : H p = none) (hc : chg o = true := by rfl) : Ok (F.out p) (upd H p o) σ ρ :=
  ok.move .out (grow_upd h) (fun b u e q => by
    rcases q with q | q
    · exact q
    · subst q; rw [h] at e; cases e) (fun b q => by
    rcases q with q | q
    · obtain ⟨u, e, c⟩ := ok.out b q; exact ⟨u, grow_upd h _ _ e, c⟩
    · subst q; exact ⟨_, upd_same, hc⟩) (fun b q => .inl (ok.bo b q)) (fun q hq => ok.held q hq)
theorem Ok.delOut (ok : Ok (F.out p) H σ ρ) (hp : ¬ F.B p) : Ok F H σ ρ :=
  ok.move .out' (fun _ _ e => e) (fun b u e q => .inl q) (fun b q => ok.out b (.inl q)) (fun b q => by
    rcases ok.bo b q with h | h
    · exact h
    · subst h; exact (hp q).elim) (fun q hq => ok.held q hq)
theorem Ok.addHold {hs : List HF} (ok : Ok F H σ ρ) (r : ∀ p ∈ hs, p.P (Av F σ ρ) H) : Ok (F.also hs) H σ ρ :=
  ok.move .also (fun _ _ e => e) (fun b u e q => q) ok.out ok.bo (fun q hq => by
    rcases List.mem_append.mp hq with hq | hq
    · exact r q hq
    · exact ok.held q hq)
theorem Ok.delHold {hs : List HF} (ok : Ok (F.also hs) H σ ρ) : Ok F H σ ρ :=
  ok.move .also' (fun _ _ e => e) (fun b u e q => q) ok.out ok.bo (fun q hq => ok.held q (List.mem_append_right _ hq))
theorem Res.none : True := trivial
/-- other slots: what holds of the new ones -/
theorem Ok.slots {σ' : St} (ok : Ok F H σ ρ) (hm : ∀ b, Mut σ' ρ' b → Mut σ ρ b) (len : ρ'.length = σ'.length)
    (slot : ∀ (i : Nat) (d : D), ρ'[i]? = some (some d) → ∃ v, σ'[i]? = some (some v) ∧ Slot F (Av F σ ρ) H v d)
    (dist : ∀ (i j : Nat) (b : Addr), i ≠ j → IsM ρ' i → IsM ρ' j → σ'[i]? = some (some (.ref b)) → σ'[j]? = some (some (.ref b)) → False) : Ok F H σ' ρ' := by
  have kp : Kp (Av F σ ρ) H (Av F σ' ρ') H := .weak fun b q => by
    rcases q with q | q
    · exact .inl q
    · exact .inr (hm b q)
  exact {
    len := len
    slot := fun i d h => by
      obtain ⟨v, e1, e2⟩ := slot i d h
      exact ⟨v, e1, e2.step kp fun _ _ _ _ e => e⟩
    dist := dist
    keep := ok.keep
    out := ok.out
    bo := ok.bo
    held := fun p hp => p.st _ _ _ _ (ok.held p hp) kp }
theorem isM_set {d : Option D} {j : Nat} (h : IsM (ρ.set i d) j) : (j = i ∧ ∃ ds, d = some (.own ds) ∨ d = some (.bor ds)) ∨ (j ≠ i ∧ IsM ρ j) := by
  obtain ⟨ds, h⟩ := h
  by_cases e : i = j
  · subst e
    left
    refine ⟨rfl, ds, ?_⟩
    rw [List.getElem?_set] at h
    simp at h
    rcases h with h | h
    · exact .inl h.2
    · exact .inr h.2
  · right
    refine ⟨fun q => e q.symm, ds, ?_⟩
    rw [List.getElem?_set_ne e] at h
    exact h
/-- a value that stays is stored -/
theorem Ok.set (ok : Ok F H σ ρ) (r : F.R (Av F σ ρ) H v d) : Ok F H (σ.set i (some v)) (ρ.set i (some d)) := by
  have nm : ∀ ds, ¬ (some d = some (D.own ds) ∨ some d = some (D.bor ds)) := by
    intro ds h
    rcases h with h | h
    · cases h; exact r.noOwn
    · cases h; exact r.noBor
  refine ok.slots (fun b ⟨j, m, e⟩ => ?_) (by rw [List.length_set, List.length_set]; exact ok.len) (fun j x h => ?_) (fun j k b n m1 m2 e1 e2 => ?_)
  · rcases isM_set m with ⟨_, ds, q⟩ | ⟨n, m⟩
    · exact (nm ds q).elim
    · rw [List.getElem?_set_ne (fun q => n q.symm)] at e
      exact ⟨j, m, e⟩
  · by_cases e : i = j
    · subst e
      rw [List.getElem?_set] at h ⊢
      simp at h ⊢
      obtain ⟨hl, rfl⟩ := h
      rw [ok.len] at hl
      exact ⟨v, ⟨hl, rfl⟩, .rep r⟩
    · rw [List.getElem?_set_ne e] at h ⊢
      exact ok.slot j x h
  · rcases isM_set m1 with ⟨_, ds, q⟩ | ⟨n1, m1⟩
    · exact nm ds q
    rcases isM_set m2 with ⟨_, ds, q⟩ | ⟨n2, m2⟩
    · exact nm ds q
    rw [List.getElem?_set_ne (fun q => n1 q.symm)] at e1
    rw [List.getElem?_set_ne (fun q => n2 q.symm)] at e2
    exact ok.dist j k b n m1 m2 e1 e2
/-- a slot is forgotten -/
theorem Ok.drop (ok : Ok F H σ ρ) : Ok F H σ (ρ.set i none) := by
  have nm : ∀ ds, ¬ ((none : Option D) = some (D.own ds) ∨ (none : Option D) = some (D.bor ds)) := fun ds h => by rcases h with h | h <;> cases h
  refine ok.slots (fun b ⟨j, m, e⟩ => ?_) (by rw [List.length_set]; exact ok.len) (fun j x h => ?_) (fun j k b n m1 m2 e1 e2 => ?_)
  · rcases isM_set m with ⟨_, ds, q⟩ | ⟨n, m⟩
    · exact (nm ds q).elim
    · exact ⟨j, m, e⟩
  · by_cases e : i = j
    · subst e
      rw [List.getElem?_set] at h
      simp at h
    · rw [List.getElem?_set_ne e] at h
      exact ok.slot j x h
  · rcases isM_set m1 with ⟨_, ds, q⟩ | ⟨n1, m1⟩
    · exact nm ds q
    rcases isM_set m2 with ⟨_, ds, q⟩ | ⟨n2, m2⟩
    · exact nm ds q
    exact ok.dist j k b n m1 m2 e1 e2
/-- a new list is stored -/
theorem Ok.setOwn {vs : HO} {ds : MV} (ok : Ok (F.out a) H σ ρ) (ha : H a = some vs) (h0 : F.H0 a = none) (no : ¬ F.Out a) (nb : ¬ F.B a) (nm : ¬ Mut σ ρ a) (r : F.M (Av (F.out a) σ ρ) H vs ds) : Ok F H (σ.set i (some (.ref a))) (ρ.set i (some (.own ds))) := by
  have hi : ∀ {j : Nat} {b : Addr}, IsM (ρ.set i (some (.own ds))) j → (σ.set i (some (V.ref a)))[j]? = some (some (.ref b)) → (j = i ∧ b = a) ∨ (j ≠ i ∧ IsM ρ j ∧ σ[j]? = some (some (.ref b))) := by
    intro j b m e
    rcases isM_set m with ⟨rfl, _, _⟩ | ⟨n, m⟩
    · left
      rw [List.getElem?_set] at e
      simp at e
      exact ⟨rfl, e.2.symm⟩
    · right
      rw [List.getElem?_set_ne (fun q => n q.symm)] at e
      exact ⟨n, m, e⟩
  have hm : ∀ b, Av F (σ.set i (some (.ref a))) (ρ.set i (some (.own ds))) b → Av (F.out a) σ ρ b := by
    intro b q
    rcases q with q | ⟨j, m, e⟩
    · exact .inl (.inl q)
    · rcases hi m e with ⟨_, rfl⟩ | ⟨_, m, e⟩
      · exact .inl (.inr rfl)
      · exact .inr ⟨j, m, e⟩
  have kp : Kp (Av (F.out a) σ ρ) H (Av F (σ.set i (some (.ref a))) (ρ.set i (some (.own ds)))) H := .weak hm
  exact {
    len := by rw [List.length_set, List.length_set]; exact ok.len
    slot := fun j x h => by
      by_cases e : i = j
      · subst e
        rw [List.getElem?_set] at h ⊢
        simp at h ⊢
        obtain ⟨hl, rfl⟩ := h
        rw [ok.len] at hl
        exact ⟨_, ⟨hl, rfl⟩, .own ha h0 no (r.step kp)⟩
      · rw [List.getElem?_set_ne e] at h ⊢
        obtain ⟨v, e1, e2⟩ := ok.slot j x h
        refine ⟨v, e1, ?_⟩
        have e3 := e2.step kp fun _ _ _ _ e => e
        exact e3.fx rfl rfl rfl rfl rfl fun b _ q => .inl q
    dist := fun j k b n m1 m2 e1 e2 => by
      rcases hi m1 e1 with ⟨hj, hb⟩ | ⟨n1, p1, f1⟩
      · rcases hi m2 e2 with ⟨hk, _⟩ | ⟨n2, p2, f2⟩
        · exact n (hj.trans hk.symm)
        · exact nm ⟨k, p2, hb ▸ f2⟩
      · rcases hi m2 e2 with ⟨hk, hb⟩ | ⟨n2, p2, f2⟩
        · exact nm ⟨j, p1, hb ▸ f1⟩
        · exact ok.dist j k b n p1 p2 f1 f2
    keep := ok.keep
    out := fun b q => ok.out b (.inl q)
    bo := fun b q => by
      rcases ok.bo b q with h | h
      · exact h
      · subst h
        exact (nb q).elim
    held := fun p hp => p.st _ _ _ _ (ok.held p hp) kp }
end
end Dx

end
section -- De
set_option maxRecDepth 100000
set_option maxHeartbeats 4000000
namespace Dx
open PySem PySem.Spec L2 Sx
open PyProof.Rows hiding St

/-- the frame is of this text -/
class Fit (X : Cx) (F : Fx) : Prop where
  K : F.K = X.K
  w : F.w = X.w
instance {X : Cx} {F : Fx} {p : Addr} [h : Fit X F] : Fit X (F.out p) := ⟨h.K, h.w⟩
instance {X : Cx} {F : Fx} {hs : List HF} [h : Fit X F] : Fit X (F.also hs) := ⟨h.K, h.w⟩

/-- what an expression gives -/
inductive Res (F : Fx) (H : Hp) (σ : St) : V → D → En → Prop where
  | rep {v : V} {d : D} {ρ : En} (ok : Ok F H σ ρ) (r : F.R (Av F σ ρ) H v d) : Res F H σ v d ρ
  | own {a : Addr} {vs : HO} {ds : MV} {ρ : En} (ha : H a = some vs) (h0 : F.H0 a = none) (no : ¬ F.Out a) (nb : ¬ F.B a) (nm : ¬ Mut σ ρ a) (ok : Ok (F.out a) H σ ρ) (r : F.M (Av (F.out a) σ ρ) H vs ds) : Res F H σ (.ref a) (.own ds) ρ
abbrev DQ := D → En → Prop
def DE (X : Cx) (F : Fx) (e : Expr) (ρ : En) (Q : DQ) : Prop := ∀ σ H, Ok F H σ ρ → RE X e σ H fun v H' => ∃ d ρ', Res F H' σ v d ρ' ∧ Kp (Mut σ ρ) H (Mut σ ρ') H' ∧ Q d ρ'
def DT (X : Cx) (F : Fx) (e : Expr) (ρ : En) (Q : Bool → En → Prop) : Prop := ∀ σ H, Ok F H σ ρ → RT X e σ H fun b H' => ∃ ρ', Ok F H' σ ρ' ∧ Kp (Mut σ ρ) H (Mut σ ρ') H' ∧ Q b ρ'
def DW (X : Cx) (F : Fx) (e : Expr) (ρ : En) (Q : Bool → En → Prop) : Prop := ∀ σ H, Ok F H σ ρ → RW X e σ H fun b H' => ∃ ρ', Ok F H' σ ρ' ∧ Kp (Mut σ ρ) H (Mut σ ρ') H' ∧ Q b ρ'
/-- by values -/
def DO (X : Cx) (F : Fx) (f : Value → Value → Sem Value) (x y : D) (ρ : En) (Q : DQ) : Prop := ∀ σ H v u, Ok F H σ ρ → F.R (Av F σ ρ) H v x → F.R (Av F σ ρ) H u y → RO X f v u H fun z H' => ∃ d ρ', Res F H' σ z d ρ' ∧ Kp (Mut σ ρ) H (Mut σ ρ') H' ∧ Q d ρ'
def DU (X : Cx) (F : Fx) (f : Value → Sem Value) (x : D) (ρ : En) (Q : DQ) : Prop := ∀ σ H v, Ok F H σ ρ → F.R (Av F σ ρ) H v x → RU X f v H fun z H' => ∃ d ρ', Res F H' σ z d ρ' ∧ Kp (Mut σ ρ) H (Mut σ ρ') H' ∧ Q d ρ'
def DTru (X : Cx) (F : Fx) (x : D) (ρ : En) (Q : Bool → En → Prop) : Prop := ∀ σ H v, Ok F H σ ρ → F.R (Av F σ ρ) H v x → RTru X v H fun b H' => ∃ ρ', Ok F H' σ ρ' ∧ Kp (Mut σ ρ) H (Mut σ ρ') H' ∧ Q b ρ'
def DC (X : Cx) (F : Fx) (f : Value) (xs : List D) (ρ : En) (Q : DQ) : Prop := ∀ σ H vs, Ok F H σ ρ → F.L (Av F σ ρ) H vs xs → RC X f vs H fun z H' => ∃ d ρ', Res F H' σ z d ρ' ∧ Kp (Mut σ ρ) H (Mut σ ρ') H' ∧ Q d ρ'
def DIx (X : Cx) (F : Fx) (x y : D) (ρ : En) (Q : DQ) : Prop := ∀ σ H v u, Ok F H σ ρ → F.R (Av F σ ρ) H v x → F.R (Av F σ ρ) H u y → RIx X v u H fun z H' => ∃ d ρ', Res F H' σ z d ρ' ∧ Kp (Mut σ ρ) H (Mut σ ρ') H' ∧ Q d ρ'
/-- an argument: a value, or a slot that is lent -/
inductive Ag where
  | d (x : D) | len (i : Nat)
inductive AgsP (F : Fx) (σ : St) (ρ : En) (H : Hp) : List V → List Ag → Prop where
  | nil : AgsP F σ ρ H [] []
  | d {v : V} {x : D} {vs : List V} {as : List Ag} (r : F.R (Av F σ ρ) H v x) (t : AgsP F σ ρ H vs as) : AgsP F σ ρ H (v :: vs) (.d x :: as)
  | len {v : V} {i : Nat} {vs : List V} {as : List Ag} (e : σ[i]? = some (some v)) (t : AgsP F σ ρ H vs as) : AgsP F σ ρ H (v :: vs) (.len i :: as)
def DA (X : Cx) (F : Fx) (es : List Expr) (ρ : En) (Q : List Ag → En → Prop) : Prop := ∀ σ H, Ok F H σ ρ → RA X es σ H fun vs H' => ∃ as ρ', Ok F H' σ ρ' ∧ AgsP F σ ρ' H' vs as ∧ Kp (Mut σ ρ) H (Mut σ ρ') H' ∧ Q as ρ'

section
variable {X : Cx} {F : Fx} {e a b c o : Expr} {es : List Expr} {ρ ρ' ρ1 : En} {σ : St} {H H' : Hp} {Q : DQ} {QB : Bool → En → Prop} {pos p apos : Pos} {x : Str} {d : D} {v u : V} {i : Nat}
theorem Res.fz (h : Res F H σ v d ρ) : Ok F H σ ρ ∧ F.R (Av F σ ρ) H v d.fz := by
  cases h with
  | rep ok r =>
    refine ⟨ok, ?_⟩
    cases d with
    | own xs => exact r.noOwn.elim
    | _ => exact r
  | own ha h0 no nb nm ok r =>
    refine ⟨ok.delOut nb, (MRep.step r (.weak fun b q => ?_)).fz ha (fun q => ?_)⟩
    · rcases q with q | q
      · exact .inl (.inl q)
      · exact .inr q
    · rcases q with q | q
      · exact no q
      · exact nm q
theorem Res.ok (h : Res F H σ v d ρ) : Ok F H σ ρ := h.fz.1
/-- mono -/
theorem ro_mono {f : Value → Value → Sem Value} {R Q : VK} (h : RO X f v u H R) (k : ∀ z H', R z H' → Q z H') : RO X f v u H Q := fun pins s σ a b I r1 r2 => thn (h pins s σ a b I r1 r2) fun _ s' ⟨z, H', I', r, q⟩ => ⟨z, H', I', r, k z H' q⟩
theorem ru_mono {f : Value → Sem Value} {R Q : VK} (h : RU X f v H R) (k : ∀ z H', R z H' → Q z H') : RU X f v H Q := fun pins s σ a I r1 => thn (h pins s σ a I r1) fun _ s' ⟨z, H', I', r, q⟩ => ⟨z, H', I', r, k z H' q⟩
theorem rtru_mono {R Q : Bool → Hp → Prop} (h : RTru X v H R) (k : ∀ z H', R z H' → Q z H') : RTru X v H Q := fun pins s σ a I r1 => thn (h pins s σ a I r1) fun z s' ⟨H', I', q⟩ => ⟨H', I', k z H' q⟩
theorem rc_mono {f : Value} {vs : List V} {R Q : VK} (h : RC X f vs H R) (k : ∀ z H', R z H' → Q z H') : RC X f vs H Q := fun pins s σ us I r => thn (h pins s σ us I r) fun _ s' ⟨z, H', I', r, q⟩ => ⟨z, H', I', r, k z H' q⟩
theorem rix_mono {R Q : VK} (h : RIx X v u H R) (k : ∀ z H', R z H' → Q z H') : RIx X v u H Q := fun va sl pins s σ a b I r1 r2 hs => thn (h va sl pins s σ a b I r1 r2 hs) fun _ s' ⟨z, H', I', r, q⟩ => ⟨z, H', I', r, k z H' q⟩
theorem ra_mono {R Q : List V → Hp → Prop} (h : RA X es σ H R) (k : ∀ z H', R z H' → Q z H') : RA X es σ H Q := fun ps pins s I => thn (h ps pins s I) fun _ s' ⟨z, H', I', r, q⟩ => ⟨z, H', I', r, k z H' q⟩
theorem rw_mono {R Q : Bool → Hp → Prop} (h : RW X e σ H R) (k : ∀ v H', R v H' → Q v H') : RW X e σ H Q := fun wh pins s I => thn (h wh pins s I) fun v s' ⟨H', I', q⟩ => ⟨H', I', k v H' q⟩
theorem DE.mono {R Q : DQ} (h : DE X F e ρ R) (k : ∀ d ρ', R d ρ' → Q d ρ') : DE X F e ρ Q := fun σ H ok => re_mono (h σ H ok) fun v H' ⟨d, ρ', r, kp, q⟩ => ⟨d, ρ', r, kp, k d ρ' q⟩
theorem DT.mono {R Q : Bool → En → Prop} (h : DT X F e ρ R) (k : ∀ d ρ', R d ρ' → Q d ρ') : DT X F e ρ Q := fun σ H ok => rt_mono (h σ H ok) fun v H' ⟨ρ', r, kp, q⟩ => ⟨ρ', r, kp, k v ρ' q⟩
theorem de_run {R : VK} (h : DE X F e ρ Q) (ok : Ok F H σ ρ) (k : ∀ v H' d ρ', Ok F H' σ ρ' → F.R (Av F σ ρ') H' v d.fz → Kp (Mut σ ρ) H (Mut σ ρ') H' → Q d ρ' → R v H') : RE X e σ H R :=
  re_mono (h σ H ok) fun v H' ⟨d, ρ', r, kp, q⟩ => k v H' d ρ' r.fz.1 r.fz.2 kp q
theorem look_en : ∀ {N : List Str} {ρ : En} {x : Str} {d : D}, (N.zip ρ).lookup x = some (some d) → ∃ i : Nat, N[i]? = some x ∧ ρ[i]? = some (some d) := by
  intro N
  induction N with
  | nil => intro ρ x d h; simp at h
  | cons n ns ih =>
    intro ρ x d h
    cases ρ with
    | nil => simp at h
    | cons o os =>
      rw [List.zip_cons_cons, List.lookup_cons] at h
      split at h
      · rename_i hh
        have e : x = n := by simpa using hh
        exact ⟨0, by rw [e]; rfl, by cases h; rfl⟩
      · obtain ⟨i, h1, h2⟩ := ih h
        exact ⟨i + 1, h1, h2⟩
def D.plain : D → Bool
  | .own _ => false
  | .bor _ => false
  | _ => true
theorem Slot.plain {O : Addr → Prop} (h : Slot F O H v d) (p : d.plain = true) : F.R O H v d := by
  cases h with
  | own => cases p
  | bor => cases p
  | rep r => exact r
/-! ### expressions -/
theorem d_int {i : Int} {j} (q : Q (.int i) ρ) : DE X F (.Constant (.int i) j pos) ρ Q := fun σ H ok => e_int ⟨_, ρ, .rep ok (.int i), .refl, q⟩
theorem d_bl {k : Bool} {j} (q : Q (.bl k) ρ) : DE X F (.Constant (.bool k) j pos) ρ Q := fun σ H ok => e_bl ⟨_, ρ, .rep ok (.bl k), .refl, q⟩
theorem d_non {j} (q : Q .non ρ) : DE X F (.Constant .none j pos) ρ Q := fun σ H ok => e_non ⟨_, ρ, .rep ok .non, .refl, q⟩
theorem d_str {y : Str} {j} (q : Q (.str y) ρ) : DE X F (.Constant (.str y) j pos) ρ Q := fun σ H ok => e_str ⟨_, ρ, .rep ok (.str y), .refl, q⟩
theorem d_name (h : (X.N.zip ρ).lookup x = some (some d)) (hp : d.plain = true) (hv : Vis X.env.scope x) (hd : (x == ("__debug__" : Str)) = false) (hcd : (x == ("__classdict__" : Str)) = false) (q : Q d ρ) : DE X F (.Name x pos) ρ Q := by
  intro σ H ok
  obtain ⟨i, h1, h2⟩ := look_en h
  obtain ⟨v, h3, h4⟩ := ok.slot i d h2
  exact re_of (pe_var h1 hv hd hcd) ⟨v, h3, d, ρ, .rep ok (h4.plain hp), .refl, q⟩
/-- a list that is kept is read: from now on it stays -/
theorem Ok.freeze {ds : MV} (ok : Ok F H σ ρ) (h : ρ[i]? = some (some (.own ds))) : ∃ a, σ[i]? = some (some (.ref a)) ∧ Ok F H σ (ρ.set i (some ds.fz)) ∧ F.R (Av F σ (ρ.set i (some ds.fz))) H (.ref a) ds.fz ∧ Kp (Mut σ ρ) H (Mut σ (ρ.set i (some ds.fz))) H := by
  have nm : ∀ es, ¬ (some ds.fz = some (D.own es) ∨ some ds.fz = some (D.bor es)) := fun es h => by cases ds <;> (rcases h with h | h <;> cases h)
  obtain ⟨v, e, sl⟩ := ok.slot i _ h
  cases sl with
  | rep r => exact r.noOwn.elim
  | own ha h0 no r =>
  rename_i a vs
  have hm : ∀ b, Mut σ (ρ.set i (some ds.fz)) b → Mut σ ρ b := fun b ⟨j, m, e⟩ => by
    rcases isM_set m with ⟨_, es, q⟩ | ⟨n, m⟩
    · exact (nm es q).elim
    · exact ⟨j, m, e⟩
  have na : ¬ Av F σ (ρ.set i (some ds.fz)) a := by
    intro q
    rcases q with q | ⟨j, m, e'⟩
    · exact no q
    · rcases isM_set m with ⟨_, es, q⟩ | ⟨n, m⟩
      · exact (nm es q).elim
      · exact ok.dist j i a n m ⟨ds, .inl h⟩ e' e
  have kp : Kp (Av F σ ρ) H (Av F σ (ρ.set i (some ds.fz))) H := .weak fun b q => by
    rcases q with q | q
    · exact .inl q
    · exact .inr (hm b q)
  have rep : F.R (Av F σ (ρ.set i (some ds.fz))) H (.ref a) ds.fz := (MRep.step r kp).fz ha na
  refine ⟨a, e, ?_, rep, .weak hm⟩
  exact {
    len := by rw [List.length_set]; exact ok.len
    slot := fun j x hx => by
      by_cases e2 : i = j
      · subst e2
        rw [List.getElem?_set] at hx
        simp at hx
        obtain ⟨_, rfl⟩ := hx
        exact ⟨_, e, .rep rep⟩
      · rw [List.getElem?_set_ne e2] at hx
        obtain ⟨v', e3, e4⟩ := ok.slot j x hx
        exact ⟨v', e3, e4.step kp fun _ _ _ _ e => e⟩
    dist := fun j k b n m1 m2 e1 e2 => by
      rcases isM_set m1 with ⟨_, es, q⟩ | ⟨n1, m1⟩
      · exact nm es q
      rcases isM_set m2 with ⟨_, es, q⟩ | ⟨n2, m2⟩
      · exact nm es q
      exact ok.dist j k b n m1 m2 e1 e2
    keep := ok.keep
    out := ok.out
    bo := ok.bo
    held := fun p hp => p.st _ _ _ _ (ok.held p hp) kp }
/-- the slot of a name -/
def setE : List Str → En → Str → Option D → En
  | n :: ns, o :: os, x, v => if x = n then v :: os else o :: setE ns os x v
  | _, ρ, _, _ => ρ
theorem setE_eq {v : Option D} : ∀ {N : List Str} {ρ : En} {x : Str} {i : Nat}, N[i]? = some x → N.Nodup → setE N ρ x v = ρ.set i v
  | [], _, _, _, h, _ => by simp at h
  | n :: ns, [], x, i, h, _ => by simp [setE]
  | n :: ns, o :: os, x, 0, h, _ => by
    have e : n = x := by simpa using h
    unfold setE
    rw [if_pos e.symm]
    rfl
  | n :: ns, o :: os, x, i + 1, h, hn => by
    have h' : ns[i]? = some x := by simpa using h
    have hne : x ≠ n := fun e => (List.nodup_cons.mp hn).1 (e ▸ List.mem_of_getElem? h')
    unfold setE
    rw [if_neg hne, setE_eq h' (List.nodup_cons.mp hn).2]
    rfl
theorem d_nameO {ds : MV} (hN : X.N.Nodup) (h : (X.N.zip ρ).lookup x = some (some (.own ds))) (hv : Vis X.env.scope x) (hd : (x == ("__debug__" : Str)) = false) (hcd : (x == ("__classdict__" : Str)) = false) (q : Q ds.fz (setE X.N ρ x (some ds.fz))) : DE X F (.Name x pos) ρ Q := by
  intro σ H ok
  obtain ⟨i, h1, h2⟩ := look_en h
  obtain ⟨a, e, ok', r, kp⟩ := ok.freeze h2
  rw [setE_eq h1 hN] at q
  exact re_of (pe_var h1 hv hd hcd) ⟨_, e, _, _, .rep ok' r, kp, q⟩
theorem d_bin {op : Operator} (q : DE X F a ρ fun x ρ1 => DE X F b ρ1 fun y ρ2 => DO X F (binaryOp op) x.fz y.fz ρ2 Q) : DE X F (.BinOp a op b pos) ρ Q := fun σ H ok =>
  e_bin (de_run q ok fun v H1 x ρ1 ok1 r1 k1 q1 => de_run q1 ok1 fun u H2 y ρ2 ok2 r2 k2 q2 => ro_mono (q2 σ H2 v u ok2 (r1.step k2.mut) r2) fun z H3 ⟨d, ρ3, res, k3, q⟩ => ⟨d, ρ3, res, (k1.trans k2).trans k3, q⟩)
theorem d_un {op : UnaryOp} (q : DE X F a ρ fun x ρ1 => DU X F (unaryOp op) x.fz ρ1 Q) : DE X F (.UnaryOp op a pos) ρ Q := fun σ H ok =>
  e_un (de_run q ok fun v H1 x ρ1 ok1 r1 k1 q1 => ru_mono (q1 σ H1 v ok1 r1) fun z H3 ⟨d, ρ3, res, k3, q⟩ => ⟨d, ρ3, res, k1.trans k3, q⟩)
theorem d_not (q : DE X F a ρ fun x ρ1 => ∃ c, x = .bl c ∧ Q (.bl (!c)) ρ1) : DE X F (.UnaryOp .Not a pos) ρ Q := fun σ H ok =>
  e_not (de_run q ok fun v H1 x ρ1 ok1 r1 k1 ⟨c, hx, q1⟩ => by subst hx; exact ⟨c, r1.blV, _, ρ1, .rep ok1 (.bl _), k1, q1⟩)
theorem d_cmp {op : CmpOp} (hm : behindInMarks op b = false) (q : DE X F a ρ fun x ρ1 => DE X F b ρ1 fun y ρ2 => DO X F (compareOp op) x.fz y.fz ρ2 Q) : DE X F (.Compare a [op] [b] pos) ρ Q := fun σ H ok =>
  e_cmp hm (de_run q ok fun v H1 x ρ1 ok1 r1 k1 q1 => de_run q1 ok1 fun u H2 y ρ2 ok2 r2 k2 q2 => ro_mono (q2 σ H2 v u ok2 (r1.step k2.mut) r2) fun z H3 ⟨d, ρ3, res, k3, q⟩ => ⟨d, ρ3, res, (k1.trans k2).trans k3, q⟩)
theorem d_one {op} (q : DE X F a ρ Q) : DE X F (.BoolOp op [a] pos) ρ Q := fun σ H ok => e_one (q σ H ok)
theorem d_and (q : DE X F a ρ fun x ρ1 => ∃ k, x = .bl k ∧ if k = true then DE X F (.BoolOp .And (b :: es) pos) ρ1 Q else Q (.bl false) ρ1) : DE X F (.BoolOp .And (a :: b :: es) pos) ρ Q := fun σ H ok =>
  e_and (de_run q ok fun v H1 x ρ1 ok1 r1 k1 ⟨k, hx, q1⟩ => by
    subst hx
    refine ⟨k, r1.blV, ?_⟩
    cases k with
    | true => exact iteT (re_mono ((show DE X F (.BoolOp .And (b :: es) pos) ρ1 Q from q1) σ H1 ok1) fun z H3 ⟨d, ρ3, res, k3, q⟩ => ⟨d, ρ3, res, k1.trans k3, q⟩)
    | false => exact iteF ⟨_, ρ1, .rep ok1 (.bl _), k1, q1⟩)
theorem d_or (q : DE X F a ρ fun x ρ1 => ∃ k, x = .bl k ∧ if k = true then Q (.bl true) ρ1 else DE X F (.BoolOp .Or (b :: es) pos) ρ1 Q) : DE X F (.BoolOp .Or (a :: b :: es) pos) ρ Q := fun σ H ok =>
  e_or (de_run q ok fun v H1 x ρ1 ok1 r1 k1 ⟨k, hx, q1⟩ => by
    subst hx
    refine ⟨k, r1.blV, ?_⟩
    cases k with
    | false => exact iteF (re_mono ((show DE X F (.BoolOp .Or (b :: es) pos) ρ1 Q from q1) σ H1 ok1) fun z H3 ⟨d, ρ3, res, k3, q⟩ => ⟨d, ρ3, res, k1.trans k3, q⟩)
    | true => exact iteT ⟨_, ρ1, .rep ok1 (.bl _), k1, q1⟩)
theorem dt_run {R : Bool → Hp → Prop} (h : DT X F e ρ QB) (ok : Ok F H σ ρ) (k : ∀ b H' ρ', Ok F H' σ ρ' → Kp (Mut σ ρ) H (Mut σ ρ') H' → QB b ρ' → R b H') : RT X e σ H R :=
  rt_mono (h σ H ok) fun v H' ⟨ρ', r, kp, q⟩ => k v H' ρ' r kp q
theorem d_if (q : DT X F c ρ fun k ρ1 => if k = true then DE X F a ρ1 Q else DE X F b ρ1 Q) : DE X F (.IfExp c a b pos) ρ Q := fun σ H ok =>
  e_if (dt_run q ok fun k H1 ρ1 ok1 k1 q1 => by
    cases k with
    | true => exact iteT (re_mono ((show DE X F a ρ1 Q from q1) σ H1 ok1) fun z H3 ⟨d, ρ3, res, k3, q⟩ => ⟨d, ρ3, res, k1.trans k3, q⟩)
    | false => exact iteF (re_mono ((show DE X F b ρ1 Q from q1) σ H1 ok1) fun z H3 ⟨d, ρ3, res, k3, q⟩ => ⟨d, ρ3, res, k1.trans k3, q⟩))
theorem d_chain {op op' : CmpOp} (hm : lastMarks [op, op'] [b, c] = false) (q : DE X F a ρ fun x ρ1 => DE X F b ρ1 fun y ρ2 => DO X F (compareOp op) x.fz y.fz ρ2 fun z ρ3 => ∃ k, z = .bl k ∧ (if k = true then DE X F c ρ3 fun u ρ4 => DO X F (compareOp op') y.fz u.fz ρ4 Q else Q (.bl false) ρ3)) :
    DE X F (.Compare a [op, op'] [b, c] pos) ρ Q := fun σ H ok =>
  e_chain hm (de_run q ok fun v H1 x ρ1 ok1 r1 k1 q1 => de_run q1 ok1 fun u H2 y ρ2 ok2 r2 k2 q2 => ro_mono (q2 σ H2 v u ok2 (r1.step k2.mut) r2) fun z H3 ⟨d, ρ3, res, k3, q⟩ => by
    obtain ⟨k, rfl, q⟩ := q
    refine ⟨k, res.fz.2.blV, ?_⟩
    cases k with
    | false => exact iteF ⟨_, ρ3, .rep res.ok (.bl _), (k1.trans k2).trans k3, q⟩
    | true => exact iteT (de_run (show DE X F c ρ3 _ from q) res.ok fun t H4 y4 ρ4 ok4 r4 k4 q4 => ro_mono (q4 σ H4 u t ok4 ((r2.step k3.mut).step k4.mut) r4) fun z H5 ⟨d, ρ5, res, k5, q⟩ => ⟨d, ρ5, res, (((k1.trans k2).trans k3).trans k4).trans k5, q⟩))
/-! ### tests -/
theorem dt_val (he : ∀ whole, isTrue e X.env whole = (do let v ← whole; standAt e.pos; holding [v] (truthy v))) (q : DE X F e ρ fun x ρ1 => DTru X F x.fz ρ1 QB) : DT X F e ρ QB := fun σ H ok =>
  t_val he (de_run q ok fun v H1 x ρ1 ok1 r1 k1 q1 => rtru_mono (q1 σ H1 v ok1 r1) fun z H3 ⟨ρ3, res, k3, q⟩ => ⟨ρ3, res, k1.trans k3, q⟩)
theorem dt_cmp {op : CmpOp} (hm : behindInMarks op b = false) (q : DE X F a ρ fun x ρ1 => DE X F b ρ1 fun y ρ2 => DO X F (compareOp op) x.fz y.fz ρ2 fun z ρ3 => ∃ k, z = .bl k ∧ QB k ρ3) : DT X F (.Compare a [op] [b] pos) ρ QB := fun σ H ok =>
  t_cmp hm (de_run q ok fun v H1 x ρ1 ok1 r1 k1 q1 => de_run q1 ok1 fun u H2 y ρ2 ok2 r2 k2 q2 => ro_mono (q2 σ H2 v u ok2 (r1.step k2.mut) r2) fun z H3 ⟨d, ρ3, res, k3, k, hd, q⟩ => by
    subst hd
    exact ⟨k, res.fz.2.blV, ρ3, res.ok, (k1.trans k2).trans k3, q⟩)
theorem dt_not (q : DT X F a ρ fun k ρ1 => QB (!k) ρ1) : DT X F (.UnaryOp .Not a pos) ρ QB := fun σ H ok => t_not (dt_run q ok fun k H1 ρ1 ok1 k1 q1 => ⟨ρ1, ok1, k1, q1⟩)
theorem dt_pw (q : DW X F e ρ QB) : DT X F e ρ QB := fun σ H ok => t_pw (q σ H ok)
theorem dw_and1 (q : DT X F a ρ QB) : DW X F (.BoolOp .And [a] pos) ρ QB := fun σ H ok => w_and1 (q σ H ok)
theorem dw_or1 (q : DT X F a ρ QB) : DW X F (.BoolOp .Or [a] pos) ρ QB := fun σ H ok => w_or1 (q σ H ok)
theorem dw_and (q : DT X F a ρ fun k ρ1 => if k = true then DW X F (.BoolOp .And (b :: es) pos) ρ1 QB else QB false ρ1) : DW X F (.BoolOp .And (a :: b :: es) pos) ρ QB := fun σ H ok =>
  w_and (dt_run q ok fun k H1 ρ1 ok1 k1 q1 => by
    cases k with
    | true => exact iteT (rw_mono ((show DW X F _ ρ1 QB from q1) σ H1 ok1) fun z H3 ⟨ρ3, res, k3, q⟩ => ⟨ρ3, res, k1.trans k3, q⟩)
    | false => exact iteF ⟨ρ1, ok1, k1, q1⟩)
theorem dw_or (q : DT X F a ρ fun k ρ1 => if k = true then QB true ρ1 else DW X F (.BoolOp .Or (b :: es) pos) ρ1 QB) : DW X F (.BoolOp .Or (a :: b :: es) pos) ρ QB := fun σ H ok =>
  w_or (dt_run q ok fun k H1 ρ1 ok1 k1 q1 => by
    cases k with
    | false => exact iteF (rw_mono ((show DW X F _ ρ1 QB from q1) σ H1 ok1) fun z H3 ⟨ρ3, res, k3, q⟩ => ⟨ρ3, res, k1.trans k3, q⟩)
    | true => exact iteT ⟨ρ1, ok1, k1, q1⟩)
/-! ### arguments -/
theorem AgsP.step {σ : St} (k : Kp (Av F σ ρ) H (Av F σ ρ') H') : ∀ {vs : List V} {as : List Ag}, AgsP F σ ρ H vs as → AgsP F σ ρ' H' vs as
  | _, _, .nil => .nil
  | _, _, .d r t => .d (Rep.step k r) (AgsP.step k t)
  | _, _, .len e t => .len e (AgsP.step k t)
theorem da_nil {QA : List Ag → En → Prop} (q : QA [] ρ) : DA X F [] ρ QA := fun σ H ok => a_nil ⟨[], ρ, ok, .nil, .refl, q⟩
theorem da_cons {QA : List Ag → En → Prop} (hs : starEach (e :: es) X.env = (false, eval e X.env) :: starEach es X.env) (q : DE X F e ρ fun x ρ1 => DA X F es ρ1 fun xs ρ2 => QA (.d x.fz :: xs) ρ2) : DA X F (e :: es) ρ QA := fun σ H ok =>
  a_cons hs (de_run q ok fun v H1 x ρ1 ok1 r1 k1 q1 => ra_mono (q1 σ H1 ok1) fun vs H2 ⟨as, ρ2, ok2, ps, k2, q⟩ => ⟨.d x.fz :: as, ρ2, ok2, .d (r1.step k2.mut) ps, k1.trans k2, q⟩)
/-- a list is lent -/
theorem da_lend {QA : List Ag → En → Prop} (hi : X.N[i]? = some x) (hm : ∃ d, ρ[i]? = some (some d)) (hv : Vis X.env.scope x) (hd : (x == ("__debug__" : Str)) = false) (hcd : (x == ("__classdict__" : Str)) = false) (hs : starEach (.Name x pos :: es) X.env = (false, eval (.Name x pos) X.env) :: starEach es X.env)
    (q : DA X F es ρ fun xs ρ2 => QA (.len i :: xs) ρ2) : DA X F (.Name x pos :: es) ρ QA := fun σ H ok => by
  obtain ⟨d, hm⟩ := hm
  obtain ⟨v, h3, h4⟩ := ok.slot i d hm
  exact a_cons hs (re_of (pe_var hi hv hd hcd) ⟨v, h3, ra_mono (q σ H ok) fun vs H2 ⟨as, ρ2, ok2, ps, k2, q⟩ => ⟨.len i :: as, ρ2, ok2, .len h3 ps, k2, q⟩⟩)
/-- the arguments when all are values -/
def agV : List Ag → Option (List D)
  | [] => some []
  | .d x :: as => match agV as with
    | some xs => some (x :: xs)
    | none => none
  | .len _ :: _ => none
theorem AgsP.vals : ∀ {vs : List V} {as : List Ag} {ds : List D}, AgsP F σ ρ H vs as → agV as = some ds → F.L (Av F σ ρ) H vs ds
  | _, _, ds, .nil, e => by cases e; exact .nil
  | _, _, ds, .d r t, e => by
    unfold agV at e
    split at e
    · rename_i es e1
      cases e
      exact .cons r (AgsP.vals t e1)
    · cases e
  | _, _, ds, .len _ _, e => by cases e
end
end Dx

end
section -- Df
set_option maxRecDepth 100000
set_option maxHeartbeats 4000000
/-! Values: displays, operators, subscripts, built-ins. -/
namespace Dx
open PySem PySem.Spec L2 Sx
open PyProof.Rows hiding St

section
variable {X : Cx} {F : Fx} {e a b c o : Expr} {es : List Expr} {ρ ρ' ρ1 : En} {σ : St} {H H' : Hp} {Q : DQ} {QB : Bool → En → Prop} {pos p apos : Pos} {x : Str} {d : D} {v u : V} {i j : Int}
theorem Ok.kpOut {q : Addr} {o : HO} (h : H q = none) : Kp (Av F σ ρ) H (Av (F.out q) σ ρ) (upd H q o) :=
  ⟨fun b u e _ => grow_upd h b u e, fun b u e n m => by
    rcases m with (m | m) | m
    · exact n (.inl m)
    · subst m; rw [h] at e; cases e
    · exact n (.inr m)⟩
theorem res_ownM {q : Addr} {vs : HO} {ds : MV} (ok : Ok F H σ ρ) (h : H q = none) (r : F.M (Av F σ ρ) H vs ds) : Res F (upd H q vs) σ (.ref q) (.own ds) ρ :=
  .own upd_same (ok.n0 h) (fun m => ok.navn h (.inl m)) (fun m => ok.navn h (.inl (ok.bo q m))) (fun m => ok.navn h (.inr m)) (ok.addOut h r.chg) (r.step (Ok.kpOut h))
theorem res_own {q : Addr} {vs : List V} {ds : List D} (ok : Ok F H σ ρ) (h : H q = none) (r : F.L (Av F σ ρ) H vs ds) : Res F (upd H q (.lst vs)) σ (.ref q) (.own (.lst ds)) ρ := res_ownM ok h (.lst r)
theorem res_tup {q : Addr} {vs : List V} {ds : List D} (ok : Ok F H σ ρ) (h : H q = none) (r : F.L (Av F σ ρ) H vs ds) : Res F (upd H q (.tup vs)) σ (.ref q) (.tup ds) ρ :=
  .rep (ok.new h) (.tup (.inl upd_same) (ok.navn h) (r.step (.new (grow_upd h))))
theorem res_same (ok : Ok F H σ ρ) (r : F.R (Av F σ ρ) H v d) (q : Q d ρ) : ∃ d ρ', Res F H σ v d ρ' ∧ Kp (Mut σ ρ) H (Mut σ ρ') H ∧ Q d ρ' := ⟨d, ρ, .rep ok r, .refl, q⟩
/-- ( , .. ) and [ , .. ] -/
theorem d_tup {k} (q : DA X F es ρ fun as ρ1 => ∃ ds, agV as = some ds ∧ ds.length ≤ sizeLine ∧ Q (.tup ds) ρ1) : DE X F (.Tuple es k pos) ρ Q := fun σ H ok =>
  e_tup (ra_mono (q σ H ok) fun vs H1 ⟨as, ρ1, ok1, ps, k1, ds, e, hl, q⟩ => by
    have r := ps.vals e
    exact ⟨by rw [r.len]; exact hl, fun p hp => ⟨_, ρ1, res_tup ok1 hp r, k1.trans (.new (grow_upd hp)), q⟩⟩)
theorem d_lst (q : DA X F es ρ fun as ρ1 => ∃ ds, agV as = some ds ∧ ds.length ≤ sizeLine ∧ Q (.own (.lst ds)) ρ1) : DE X F (.List es pos) ρ Q := fun σ H ok =>
  e_lst (ra_mono (q σ H ok) fun vs H1 ⟨as, ρ1, ok1, ps, k1, ds, e, hl, q⟩ => by
    have r := ps.vals e
    exact ⟨by rw [r.len]; exact hl, fun p hp => ⟨_, ρ1, res_own ok1 hp r, k1.trans (.new (grow_upd hp)), q⟩⟩)
/-! ### ints -/
theorem do_int (f : Value → Value → Sem Value) (z : D) (vz : V) (h : ∀ σ H (Q' : VK), Ok F H σ ρ → Q' vz H → RO X f (.int i) (.int j) H Q') (hz : ∀ σ H, F.R (Av F σ ρ) H vz z) (q : Q z ρ) : DO X F f (.int i) (.int j) ρ Q := fun σ H v u ok r1 r2 => by
  rw [r1.intV, r2.intV]
  exact h σ H _ ok (res_same ok (hz σ H) q)
theorem do_add (q : Q (.int (i + j)) ρ) : DO X F (binaryOp .Add) (.int i) (.int j) ρ Q := do_int _ _ _ (fun _ _ _ _ k => o_add k) (fun _ _ => .int _) q
theorem do_sub (q : Q (.int (i - j)) ρ) : DO X F (binaryOp .Sub) (.int i) (.int j) ρ Q := do_int _ _ _ (fun _ _ _ _ k => o_sub k) (fun _ _ => .int _) q
theorem do_mul (hc : IntMulOk i j) (q : Q (.int (i * j)) ρ) : DO X F (binaryOp .Mult) (.int i) (.int j) ρ Q := do_int _ _ _ (fun _ _ _ _ k => o_mul hc k) (fun _ _ => .int _) q
theorem do_mod (h : 0 < j) (q : Q (.int (i % j)) ρ) : DO X F (binaryOp .Mod) (.int i) (.int j) ρ Q := do_int _ _ _ (fun _ _ _ _ k => o_mod h k) (fun _ _ => .int _) q
theorem do_fdiv (h : 0 < j) (hb : j < 2 ^ 8999) (q : Q (.int (i / j)) ρ) : DO X F (binaryOp .FloorDiv) (.int i) (.int j) ρ Q := do_int _ _ _ (fun _ _ _ _ k => o_fdiv h hb k) (fun _ _ => .int _) q
theorem do_pow (h : 0 ≤ j ∧ j ≤ 1000000 ∧ i.natAbs < 2 ^ 64) (q : Q (.int (i ^ j.toNat)) ρ) : DO X F (binaryOp .Pow) (.int i) (.int j) ρ Q := do_int _ _ _ (fun _ _ _ _ k => o_pow h k) (fun _ _ => .int _) q
theorem do_orN {m n : Nat} (q : Q (.int ((m ||| n : Nat) : Int)) ρ) : DO X F (binaryOp .BitOr) (.int (m : Int)) (.int (n : Int)) ρ Q := do_int _ _ _ (fun _ _ _ _ k => o_orN k) (fun _ _ => .int _) q
theorem do_andN {m n : Nat} (q : Q (.int ((m &&& n : Nat) : Int)) ρ) : DO X F (binaryOp .BitAnd) (.int (m : Int)) (.int (n : Int)) ρ Q := do_int _ _ _ (fun _ _ _ _ k => o_andN k) (fun _ _ => .int _) q
theorem do_andOne {m : Nat} (q : Q (.int ((m &&& 1 : Nat) : Int)) ρ) : DO X F (binaryOp .BitAnd) (.int (m : Int)) (.int 1) ρ Q := do_int _ _ _ (fun _ _ _ _ k => o_andOne k) (fun _ _ => .int _) q
theorem do_xorN {m n : Nat} (q : Q (.int ((m ^^^ n : Nat) : Int)) ρ) : DO X F (binaryOp .BitXor) (.int (m : Int)) (.int (n : Int)) ρ Q := do_int _ _ _ (fun _ _ _ _ k => o_xorN k) (fun _ _ => .int _) q
theorem do_and (q : Q (.int (Builtin.bitAnd i j)) ρ) : DO X F (binaryOp .BitAnd) (.int i) (.int j) ρ Q := do_int _ _ _ (fun _ _ _ _ k => o_and k) (fun _ _ => .int _) q
theorem do_shrN {m n : Nat} (q : Q (.int ((m >>> n : Nat) : Int)) ρ) : DO X F (binaryOp .RShift) (.int (m : Int)) (.int (n : Int)) ρ Q := do_int _ _ _ (fun _ _ _ _ k => o_shrN k) (fun _ _ => .int _) q
theorem do_shlN {m n k : Nat} (ha : m < 2 ^ k) (hb : k + n ≤ 134217728) (q : Q (.int ((m <<< n : Nat) : Int)) ρ) : DO X F (binaryOp .LShift) (.int (m : Int)) (.int (n : Int)) ρ Q := do_int _ _ _ (fun _ _ _ _ k => o_shlN ha hb k) (fun _ _ => .int _) q
theorem do_oneShl {n : Nat} (hb : n ≤ 1000000) (q : Q (.int ((1 <<< n : Nat) : Int)) ρ) : DO X F (binaryOp .LShift) (.int 1) (.int (n : Int)) ρ Q := do_int _ _ _ (fun _ _ _ _ k => o_oneShl hb k) (fun _ _ => .int _) q
theorem dc_lt (q : Q (.bl (decide (i < j))) ρ) : DO X F (compareOp .Lt) (.int i) (.int j) ρ Q := do_int _ _ _ (fun _ _ _ _ k => c_lt k) (fun _ _ => .bl _) q
theorem dc_le (q : Q (.bl (decide (i ≤ j))) ρ) : DO X F (compareOp .LtE) (.int i) (.int j) ρ Q := do_int _ _ _ (fun _ _ _ _ k => c_le k) (fun _ _ => .bl _) q
theorem dc_gt (q : Q (.bl (decide (j < i))) ρ) : DO X F (compareOp .Gt) (.int i) (.int j) ρ Q := do_int _ _ _ (fun _ _ _ _ k => c_gt k) (fun _ _ => .bl _) q
theorem dc_ge (q : Q (.bl (decide (j ≤ i))) ρ) : DO X F (compareOp .GtE) (.int i) (.int j) ρ Q := do_int _ _ _ (fun _ _ _ _ k => c_ge k) (fun _ _ => .bl _) q
theorem dc_eqI (q : Q (.bl (decide (i = j))) ρ) : DO X F (compareOp .Eq) (.int i) (.int j) ρ Q := do_int _ _ _ (fun _ _ _ _ k => c_eqI k) (fun _ _ => .bl _) q
theorem dc_neI (q : Q (.bl (!decide (i = j))) ρ) : DO X F (compareOp .NotEq) (.int i) (.int j) ρ Q := do_int _ _ _ (fun _ _ _ _ k => c_neI k) (fun _ _ => .bl _) q
theorem dc_eqS {y z : Str} (q : Q (.bl (decide (y = z))) ρ) : DO X F (compareOp .Eq) (.str y) (.str z) ρ Q := fun σ H v u ok r1 r2 => by
  rw [r1.strV, r2.strV]; exact c_eqS (res_same ok (.bl _) q)
theorem dc_neS {y z : Str} (q : Q (.bl (!decide (y = z))) ρ) : DO X F (compareOp .NotEq) (.str y) (.str z) ρ Q := fun σ H v u ok r1 r2 => by
  rw [r1.strV, r2.strV]; exact c_neS (res_same ok (.bl _) q)
theorem dc_eqB {y z : Bool} (q : Q (.bl (decide (y = z))) ρ) : DO X F (compareOp .Eq) (.bl y) (.bl z) ρ Q := fun σ H v u ok r1 r2 => by
  rw [r1.blV, r2.blV]; exact c_eqB (res_same ok (.bl _) q)
theorem dc_neB {y z : Bool} (q : Q (.bl (!decide (y = z))) ρ) : DO X F (compareOp .NotEq) (.bl y) (.bl z) ρ Q := fun σ H v u ok r1 r2 => by
  rw [r1.blV, r2.blV]; exact c_neB (res_same ok (.bl _) q)
/-- x is None -/
def D.isNon : D → Bool
  | .non => true
  | _ => false
theorem Rep.isNon {K : PySem.W.Frag} {w : World} {cl : Nm} {O : Addr → Prop} (r : Rep K w cl O H v d) : decide (v = .non) = d.isNon := by
  cases r <;> simp [D.isNon]
theorem dc_isN (q : Q (.bl d.isNon) ρ) : DO X F (compareOp .Is) d .non ρ Q := fun σ H v u ok r1 r2 => by
  rw [r2.nonV]; refine c_isN ?_; rw [r1.isNon]; exact res_same ok (.bl _) q
theorem dc_notN (q : Q (.bl (!d.isNon)) ρ) : DO X F (compareOp .IsNot) d .non ρ Q := fun σ H v u ok r1 r2 => by
  rw [r2.nonV]; refine c_notN ?_; rw [r1.isNon]; exact res_same ok (.bl _) q
theorem du_neg (q : Q (.int (-i)) ρ) : DU X F (unaryOp .USub) (.int i) ρ Q := fun σ H v ok r1 => by
  rw [r1.intV]; exact u_neg (res_same ok (.int _) q)
theorem du_inv (q : Q (.int (Builtin.bitNot i)) ρ) : DU X F (unaryOp .Invert) (.int i) ρ Q := fun σ H v ok r1 => by
  rw [r1.intV]; exact u_inv (res_same ok (.int _) q)
/-! ### truth -/
theorem dtr_bl {k : Bool} (q : QB k ρ) : DTru X F (.bl k) ρ QB := fun σ H v ok r => by
  rw [r.blV]; exact tr_bl ⟨ρ, ok, .refl, q⟩
theorem dtr_int (q : QB (i != 0) ρ) : DTru X F (.int i) ρ QB := fun σ H v ok r => by
  rw [r.intV]; exact tr_int ⟨ρ, ok, .refl, q⟩
theorem dtr_nat {m : Nat} (q : QB (decide (m ≠ 0)) ρ) : DTru X F (.int (m : Int)) ρ QB := fun σ H v ok r => by
  rw [r.intV]; exact tr_nat ⟨ρ, ok, .refl, q⟩
theorem dtr_non (q : QB false ρ) : DTru X F .non ρ QB := fun σ H v ok r => by
  rw [r.nonV]; exact rtru_of tru_ok ⟨false, rfl, ρ, ok, .refl, q⟩
theorem dtr_tup {ds : List D} [f : Fit X F] (q : QB (!ds.isEmpty) ρ) : DTru X F (.tup ds) ρ QB := fun σ H v ok r => by
  obtain ⟨a, xs, rfl, h, r⟩ := r.tupRef
  refine rtru_of tru_ok ⟨_, .inr (.inl ⟨xs, by rw [← f.K]; exact h, rfl⟩), ρ, ok, .refl, ?_⟩
  have e : xs.isEmpty = ds.isEmpty := by cases r <;> rfl
  rw [e]; exact q
theorem dtr_lst {ds : List D} [f : Fit X F] (q : QB (!ds.isEmpty) ρ) : DTru X F (.lst ds) ρ QB := fun σ H v ok r => by
  obtain ⟨a, xs, rfl, h, r⟩ := r.lstRef
  refine rtru_of tru_ok ⟨_, .inl ⟨xs, by rw [← f.K]; exact h, rfl⟩, ρ, ok, .refl, ?_⟩
  have e : xs.isEmpty = ds.isEmpty := by cases r <;> rfl
  rw [e]; exact q
/-! ### subscripts -/
theorem at_rep {K : PySem.W.Frag} {w : World} {cl : Nm} {O : Addr → Prop} {vs : List V} {ds : List D} (r : RepL K w cl O H vs ds) (h : atI ds i = some d) : ∃ v, atI vs i = some v ∧ Rep K w cl O H v d := by
  have hl := r.len
  unfold atI at h ⊢
  rw [hl]
  cases e : ixN ds.length i with
  | none => rw [e] at h; cases h
  | some k =>
    rw [e] at h
    exact r.get h
theorem dix_tup {ds : List D} [f : Fit X F] (h : atI ds i = some d) (q : Q d ρ) : DIx X F (.tup ds) (.int i) ρ Q := fun σ H v u ok r1 r2 => by
  obtain ⟨a, xs, rfl, hx, r⟩ := r1.tupRef
  obtain ⟨z, h1, h2⟩ := at_rep r h
  rw [r2.intV]
  exact Sx.ix_tp (by rw [← f.K]; exact hx) h1 (res_same ok h2 q)
theorem dix_lst {ds : List D} [f : Fit X F] (h : atI ds i = some d) (q : Q d ρ) : DIx X F (.lst ds) (.int i) ρ Q := fun σ H v u ok r1 r2 => by
  obtain ⟨a, xs, rfl, hx, r⟩ := r1.lstRef
  obtain ⟨z, h1, h2⟩ := at_rep r h
  rw [r2.intV]
  exact Sx.ix_lst (by rw [← f.K]; exact hx) h1 (res_same ok h2 q)
theorem d_ix (hs : PlainIx b) (q : DE X F a ρ fun x ρ1 => DE X F b ρ1 fun y ρ2 => DIx X F x.fz y.fz ρ2 Q) : DE X F (.Subscript a b pos) ρ Q := fun σ H ok =>
  e_ix hs (de_run q ok fun v H1 x ρ1 ok1 r1 k1 q1 => de_run q1 ok1 fun u H2 y ρ2 ok2 r2 k2 q2 => rix_mono (q2 σ H2 v u ok2 (r1.step k2.mut) r2) fun z H3 ⟨d, ρ3, res, k3, q⟩ => ⟨d, ρ3, res, (k1.trans k2).trans k3, q⟩)
def D.mutIs : D → Option (List D)
  | .own (.lst ds) => some ds
  | .bor (.lst ds) => some ds
  | _ => none
/-- the items of a list in a slot -/
def D.items : D → Option (List D)
  | .own (.lst xs) => some xs
  | .bor (.lst xs) => some xs
  | .lst xs => some xs
  | .scr xs => some xs
  | _ => none
theorem Slot.items {O : Addr → Prop} {ds : List D} (h : Slot F O H v d) (e : d.items = some ds) : ∃ a vs, v = .ref a ∧ SqL F.K H a vs ∧ F.L O H vs ds := by
  cases h with
  | own h n o r => cases r with
    | lst r => cases e; exact ⟨_, _, rfl, .inl (.inl h), r⟩
    | dct _ _ => cases e
    | ins _ _ _ _ => cases e
  | bor h n r => cases r with
    | lst r => cases e; exact ⟨_, _, rfl, .inl (.inl h), r⟩
    | dct _ _ => cases e
    | ins _ _ _ _ => cases e
  | rep r =>
    cases r with
    | lst h n r => cases e; exact ⟨_, _, rfl, .inl (.inl h), r⟩
    | scr h n r => cases e; exact ⟨_, _, rfl, .inl h, r⟩
    | scrK h r => cases e; exact ⟨_, _, rfl, h H, r⟩
    | _ => cases e
/-- an item of a list in a slot, which may change on the way -/
theorem d_ixO {d0 : D} [f : Fit X F] (hs : PlainIx b) (h : (X.N.zip ρ).lookup x = some (some d0)) (hm0 : d0.mutIs.isSome = true) (hv : Vis X.env.scope x) (hd : (x == ("__debug__" : Str)) = false) (hcd : (x == ("__classdict__" : Str)) = false) (hN : X.N.Nodup)
    (q : DE X F b ρ fun y ρ2 => ∃ i d1 ds d, y = .int i ∧ (X.N.zip ρ2).lookup x = some (some d1) ∧ d1.items = some ds ∧ atI ds i = some d ∧ Q d ρ2) : DE X F (.Subscript (.Name x p) b pos) ρ Q := fun σ H ok => by
  obtain ⟨i, h1, h2⟩ := look_en h
  obtain ⟨v, h3, h4⟩ := ok.slot i d0 h2
  refine e_ix hs (re_of (pe_var h1 hv hd hcd) ⟨v, h3, ?_⟩)
  refine de_run q ok fun u H2 y ρ2 ok2 r2 k2 ⟨k, d1, ds, d, hy, g1, g2, g3, q⟩ => ?_
  subst hy
  obtain ⟨i', h1', h2'⟩ := look_en g1
  have ei : i = i' := by
    have l1 := (List.getElem?_eq_some_iff.mp h1)
    have l2 := (List.getElem?_eq_some_iff.mp h1')
    obtain ⟨l1, e1⟩ := l1
    obtain ⟨l2, e2⟩ := l2
    exact (List.getElem_inj hN).mp (e1.trans e2.symm)
  subst ei
  obtain ⟨v', h3', h4'⟩ := ok2.slot i d1 h2'
  rw [h3] at h3'
  cases h3'
  obtain ⟨a, vs, rfl, hr, rl⟩ := h4'.items g2
  obtain ⟨z, z1, z2⟩ := at_rep rl g3
  rw [r2.intV]
  exact Sx.ix_lst (by rw [← f.K]; exact hr) z1 ⟨d, ρ2, .rep ok2 z2, k2, q⟩
/-! ### slices -/
def cutD (xs : List D) (lo hi : Option Int) : List D := (xs.drop (HT.sIx xs.length 0 lo)).take (HT.sIx xs.length xs.length hi - HT.sIx xs.length 0 lo)
theorem cut_rep {K : PySem.W.Frag} {w : World} {cl : Nm} {O : Addr → Prop} {vs : List V} {ds : List D} {lo hi : Option Int} (r : RepL K w cl O H vs ds) : RepL K w cl O H (cutV vs lo hi) (cutD ds lo hi) := by
  unfold cutV cutD
  rw [r.len]
  exact (r.drop _).take _
/-- a part of a slice -/
def DP (X : Cx) (F : Fx) : Option Expr → En → (Option Int → En → Prop) → Prop
  | none, ρ, Q => Q none ρ
  | some e, ρ, Q => DE X F e ρ fun x ρ1 => ∃ i, x = .int i ∧ Q (some i) ρ1
theorem dp_run {lo : Option Expr} {QP : Option Int → En → Prop} {R : Option Int → Hp → Prop} (h : DP X F lo ρ QP) (ok : Ok F H σ ρ) (k : ∀ l H' ρ', Ok F H' σ ρ' → Kp (Mut σ ρ) H (Mut σ ρ') H' → QP l ρ' → R l H') : tO X lo σ H R := by
  cases lo with
  | none => exact p_none (k none H ρ ok .refl h)
  | some e => exact p_some (de_run h ok fun v H1 x ρ1 ok1 r1 k1 ⟨i, hx, q1⟩ => by subst hx; exact ⟨i, r1.intV, k (some i) H1 ρ1 ok1 k1 q1⟩)
def DSl (X : Cx) (F : Fx) (x : D) (l u : Option Int) (ρ : En) (Q : DQ) : Prop := ∀ σ H v, Ok F H σ ρ → F.R (Av F σ ρ) H v x → RSl X v l u H fun z H' => ∃ d ρ', Res F H' σ z d ρ' ∧ Kp (Mut σ ρ) H (Mut σ ρ') H' ∧ Q d ρ'
theorem rsl_mono {R Q : VK} {lo hi : Option Int} (h : RSl X v lo hi H R) (k : ∀ z H', R z H' → Q z H') : RSl X v lo hi H Q := fun pins s σ a vl vu sl I r1 h1 h2 h3 => by
  obtain ⟨T, id, e1, e2, e3⟩ := h pins s σ a vl vu sl I r1 h1 h2 h3
  exact ⟨T, id, e1, e2, thn e3 fun _ s' ⟨z, H', I', r, q⟩ => ⟨z, H', I', r, k z H' q⟩⟩
theorem d_sl {lo hi : Option Expr} {p2 : Pos} (q : DE X F e ρ fun x ρ1 => DP X F lo ρ1 fun l ρ2 => DP X F hi ρ2 fun u ρ3 => DSl X F x.fz l u ρ3 Q) : DE X F (.Subscript e (.Slice lo hi none p2) pos) ρ Q := fun σ H ok =>
  e_sl (de_run q ok fun v H1 x ρ1 ok1 r1 k1 q1 => dp_run q1 ok1 fun l H2 ρ2 ok2 k2 q2 => dp_run q2 ok2 fun u H3 ρ3 ok3 k3 q3 => rsl_mono (q3 σ H3 v ok3 ((r1.step k2.mut).step k3.mut)) fun z H4 ⟨d, ρ4, res, k4, q⟩ => ⟨d, ρ4, res, ((k1.trans k2).trans k3).trans k4, q⟩)
theorem dsl_lst {ds : List D} {lo hi : Option Int} [f : Fit X F] (q : Q (.own (.lst (cutD ds lo hi))) ρ) : DSl X F (.lst ds) lo hi ρ Q := fun σ H v ok r => by
  obtain ⟨a, xs, rfl, hx, r⟩ := r.lstRef
  exact sl_l (by rw [← f.K]; exact hx) fun l hl => ⟨_, ρ, res_own ok hl (cut_rep r), .new (grow_upd hl), q⟩
theorem dsl_tup {ds : List D} {lo hi : Option Int} [f : Fit X F] (q : Q (.tup (cutD ds lo hi)) ρ) : DSl X F (.tup ds) lo hi ρ Q := fun σ H v ok r => by
  have r0 := r
  obtain ⟨a, xs, rfl, hx, r⟩ := r.tupRef
  refine sl_t (by rw [← f.K]; exact hx) (fun ⟨h1, h2⟩ => ?_) (fun _ l hl => ⟨_, ρ, res_tup ok hl (cut_rep r), .new (grow_upd hl), q⟩)
  have e : cutD ds lo hi = ds := by
    unfold cutD
    rw [← r.len, h1, h2, List.drop_zero]
    exact List.take_of_length_le (by rw [r.len]; omega)
  rw [e] at q
  exact res_same ok r0 q
theorem dsl_str {z : Str} {lo hi : Option Int} (hz : z.length ≤ sizeLine) (q : Q (.str (cutS z lo hi)) ρ) : DSl X F (.str z) lo hi ρ Q := fun σ H v ok r => by
  rw [r.strV]
  exact sl_s hz (res_same ok (.str _) q)
/-! ### + of lists, tuples, texts -/
theorem do_catL {xs ys : List D} (hz : xs.length + ys.length ≤ sizeLine) (q : Q (.own (.lst (xs ++ ys))) ρ) : DO X F (binaryOp .Add) (.lst xs) (.lst ys) ρ Q := fun σ H v u ok r1 r2 => by
  cases r1 with
  | lst h1 n1 r1 =>
  cases r2 with
  | lst h2 n2 r2 =>
  exact o_cat h1 h2 (by rw [r1.len, r2.len]; exact hz) fun l hl => ⟨_, ρ, res_own ok hl (r1.app r2), .new (grow_upd hl), q⟩
theorem do_catT {xs ys : List D} [f : Fit X F] (hz : xs.length + ys.length ≤ sizeLine) (q : Q (.tup (xs ++ ys)) ρ) : DO X F (binaryOp .Add) (.tup xs) (.tup ys) ρ Q := fun σ H v u ok r1 r2 => by
  have s1 := r1
  have s2 := r2
  obtain ⟨a, us, rfl, h1, r1⟩ := r1.tupRef
  obtain ⟨b, ws, rfl, h2, r2⟩ := r2.tupRef
  refine o_catT (by rw [← f.K]; exact h1) (by rw [← f.K]; exact h2) (by rw [r1.len, r2.len]; exact hz) (fun e => ?_) (fun _ e => ?_) (fun _ _ l hl => ⟨_, ρ, res_tup ok hl (r1.app r2), .new (grow_upd hl), q⟩)
  · subst e
    cases r1
    exact res_same ok s2 q
  · subst e
    cases r2
    rw [List.append_nil] at q
    exact res_same ok s1 q
theorem do_catS {y z : Str} (h : y.length + z.length ≤ sizeLine) (q : Q (.str (y ++ z)) ρ) : DO X F (binaryOp .Add) (.str y) (.str z) ρ Q := fun σ H v u ok r1 r2 => by
  rw [r1.strV, r2.strV]; exact o_addS h (res_same ok (.str _) q)
/-- [x] * k -/
theorem do_rep {xs : List D} {k : Int} (h1 : -(2 ^ 63) ≤ k) (h2 : k < 2 ^ 63) (hz : xs.length * k.toNat ≤ sizeLine) (q : Q (.own (.lst (List.flatten (List.replicate k.toNat xs)))) ρ) : DO X F (binaryOp .Mult) (.lst xs) (.int k) ρ Q := fun σ H v u ok r1 r2 => by
  rw [r2.intV]
  cases r1 with
  | lst h n r1 =>
  refine o_rep h h1 h2 (by rw [r1.len]; exact hz) fun l hl => ⟨_, ρ, res_own ok hl ?_, .new (grow_upd hl), q⟩
  generalize k.toNat = n
  induction n with
  | zero => exact .nil
  | succ n ih => rw [List.replicate_succ, List.replicate_succ, List.flatten_cons, List.flatten_cons]; exact r1.app ih
theorem dix_scr {ds : List D} [f : Fit X F] (h : atI ds i = some d) (q : Q d ρ) : DIx X F (.scr ds) (.int i) ρ Q := fun σ H v u ok r1 r2 => by
  obtain ⟨a, xs, rfl, hx, r⟩ := r1.scrRef
  obtain ⟨z, h1, h2⟩ := at_rep r h
  rw [r2.intV]
  exact Sx.ix_lst (by rw [← f.K]; exact hx) h1 (res_same ok h2 q)
theorem dsl_scr {ds : List D} {lo hi : Option Int} [f : Fit X F] (q : Q (.own (.lst (cutD ds lo hi))) ρ) : DSl X F (.scr ds) lo hi ρ Q := fun σ H v ok r => by
  obtain ⟨a, xs, rfl, hx, r⟩ := r.scrRef
  exact sl_l (by rw [← f.K]; exact hx) fun l hl => ⟨_, ρ, res_own ok hl (cut_rep r), .new (grow_upd hl), q⟩
/-! ### built-ins: len, tuple, list, set, sorted, min, max, sum, all, .. -/
theorem dc_len1 {x : D} (n : Nat) (hx : ∀ σ H v (Q' : VK), Ok F H σ ρ → F.R (Av F σ ρ) H v x → Q' (.int n) H → RC X (.builtin "len") [v] H Q') (q : Q (.int n) ρ) : DC X F (.builtin "len") [x] ρ Q := fun σ H vs ok r => by
  cases r with
  | cons r t => cases t; exact hx σ H _ _ ok r (res_same ok (.int _) q)
theorem dc_lenT {ds : List D} [f : Fit X F] (q : Q (.int ds.length) ρ) : DC X F (.builtin "len") [.tup ds] ρ Q := dc_len1 ds.length (fun σ H v Q' ok r k => by
  obtain ⟨a, xs, rfl, hx, r⟩ := r.tupRef
  rw [← r.len] at k
  exact b_lenT (by rw [← f.K]; exact hx) k) q
theorem dc_lenL {ds : List D} [f : Fit X F] (q : Q (.int ds.length) ρ) : DC X F (.builtin "len") [.lst ds] ρ Q := dc_len1 ds.length (fun σ H v Q' ok r k => by
  obtain ⟨a, xs, rfl, hx, r⟩ := r.lstRef
  rw [← r.len] at k
  exact b_lenL (by rw [← f.K]; exact hx) k) q
theorem dc_lenR {ds : List D} [f : Fit X F] (q : Q (.int ds.length) ρ) : DC X F (.builtin "len") [.scr ds] ρ Q := dc_len1 ds.length (fun σ H v Q' ok r k => by
  obtain ⟨a, xs, rfl, hx, r⟩ := r.scrRef
  rw [← r.len] at k
  exact b_lenL (by rw [← f.K]; exact hx) k) q
theorem dc_lenS {z : Str} (hz : z.length ≤ sizeLine) (q : Q (.int z.length) ρ) : DC X F (.builtin "len") [.str z] ρ Q := dc_len1 z.length (fun σ H v Q' ok r k => by
  rw [r.strV]
  exact rc_of call_len_str ⟨z, rfl, hz, k⟩) q
theorem dc_tupL {ds : List D} [f : Fit X F] (q : Q (.tup ds) ρ) : DC X F (.type "tuple") [.lst ds] ρ Q := fun σ H vs ok r => by
  cases r with
  | cons r t =>
    cases t
    obtain ⟨a, xs, rfl, hx, r⟩ := r.lstRef
    exact b_tupL (by rw [← f.K]; exact hx) fun l hl => ⟨_, ρ, res_tup ok hl r, .new (grow_upd hl), q⟩
theorem dc_tupT {ds : List D} [f : Fit X F] (q : Q (.tup ds) ρ) : DC X F (.type "tuple") [.tup ds] ρ Q := fun σ H vs ok r => by
  cases r with
  | cons r t =>
    cases t
    have r0 := r
    obtain ⟨a, xs, rfl, hx, r⟩ := r.tupRef
    exact b_tupT (by rw [← f.K]; exact hx) (res_same ok r0 q)
theorem dc_lstL {ds : List D} [f : Fit X F] (q : Q (.own (.lst ds)) ρ) : DC X F (.type "list") [.lst ds] ρ Q := fun σ H vs ok r => by
  cases r with
  | cons r t =>
    cases t
    obtain ⟨a, xs, rfl, hx, r⟩ := r.lstRef
    exact b_lstL (by rw [← f.K]; exact hx) fun l hl => ⟨_, ρ, res_own ok hl r, .new (grow_upd hl), q⟩
theorem dc_lstT {ds : List D} [f : Fit X F] (q : Q (.own (.lst ds)) ρ) : DC X F (.type "list") [.tup ds] ρ Q := fun σ H vs ok r => by
  cases r with
  | cons r t =>
    cases t
    obtain ⟨a, xs, rfl, hx, r⟩ := r.tupRef
    exact b_lstT (by rw [← f.K]; exact hx) fun l hl => ⟨_, ρ, res_own ok hl r, .new (grow_upd hl), q⟩
theorem dc_int1 (q : Q (.int i) ρ) : DC X F (.type "int") [.int i] ρ Q := fun σ H vs ok r => by
  cases r with
  | cons r t => cases t; rw [r.intV]; exact b_int (res_same ok (.int _) q)
theorem dc_abs (q : Q (.int (if i < 0 then -i else i)) ρ) : DC X F (.builtin "abs") [.int i] ρ Q := fun σ H vs ok r => by
  cases r with
  | cons r t => cases t; rw [r.intV]; exact b_abs (res_same ok (.int _) q)
theorem dc_max2 (hc : X.calm = true) (q : Q (.int (if j > i then j else i)) ρ) : DC X F (.builtin "max") [.int i, .int j] ρ Q := fun σ H vs ok r => by
  cases r with
  | cons r t => cases t with
    | cons r2 t => cases t; rw [r.intV, r2.intV]; exact b_max2 hc (res_same ok (.int _) q)
theorem dc_min2 (hc : X.calm = true) (q : Q (.int (if j < i then j else i)) ρ) : DC X F (.builtin "min") [.int i, .int j] ρ Q := fun σ H vs ok r => by
  cases r with
  | cons r t => cases t with
    | cons r2 t => cases t; rw [r.intV, r2.intV]; exact b_min2 hc (res_same ok (.int _) q)
theorem dc_divmod (h : 0 < j ∧ j < 1073741824) (q : Q (.tup [.int (i / j), .int (i % j)]) ρ) : DC X F (.builtin "divmod") [.int i, .int j] ρ Q := fun σ H vs ok r => by
  cases r with
  | cons r t => cases t with
    | cons r2 t => cases t; rw [r.intV, r2.intV]; exact b_divmod h fun l hl => ⟨_, ρ, res_tup ok hl (.cons (.int _) (.cons (.int _) .nil)), .new (grow_upd hl), q⟩
theorem lstInts {ns : List Int} {K : PySem.W.Frag} {w : World} {cl : Nm} {O : Addr → Prop} (r : Rep K w cl O H v (.lst (ns.map D.int))) : ∃ a, v = .ref a ∧ SqL K H a (ns.map V.int) := by
  obtain ⟨a, xs, rfl, hx, r⟩ := r.lstRef
  rw [r.ints] at hx
  exact ⟨a, rfl, hx⟩
theorem tupInts {ns : List Int} {K : PySem.W.Frag} {w : World} {cl : Nm} {O : Addr → Prop} (r : Rep K w cl O H v (.tup (ns.map D.int))) : ∃ a, v = .ref a ∧ SqT K H a (ns.map V.int) := by
  obtain ⟨a, xs, rfl, hx, r⟩ := r.tupRef
  rw [r.ints] at hx
  exact ⟨a, rfl, hx⟩
theorem res_set {q : Addr} {ns ks : List Int} (ok : Ok F H σ ρ) (h : H q = none) (nd : ks.Nodup) (m : ∀ k, k ∈ ks ↔ k ∈ ns) : Res F (upd H q (SetO F.w q (fun j => decide (j ∈ ns)) ks.length)) σ (.ref q) (.set ns) ρ :=
  .rep (ok.new h) (.set upd_same nd m (ok.navn h))
theorem dc_setL {ns : List Int} [f : Fit X F] (hc : X.calm = true) (hn : ns.length ≤ 4000) (q : Q (.set ns) ρ) : DC X F (.type "set") [.lst (ns.map D.int)] ρ Q := fun σ H vs ok r => by
  cases r with
  | cons r t =>
    cases t
    obtain ⟨a, rfl, hx⟩ := lstInts r
    exact b_setL hc (by rw [← f.K]; exact hx) hn fun l ks hl nd m => by
      rw [← f.w]
      exact ⟨_, ρ, res_set ok hl nd m, .new (grow_upd hl), q⟩
theorem dc_setT {ns : List Int} [f : Fit X F] (hc : X.calm = true) (hn : ns.length ≤ 4000) (q : Q (.set ns) ρ) : DC X F (.type "set") [.tup (ns.map D.int)] ρ Q := fun σ H vs ok r => by
  cases r with
  | cons r t =>
    cases t
    obtain ⟨a, rfl, hx⟩ := tupInts r
    exact b_setT hc (by rw [← f.K]; exact hx) hn fun l ks hl nd m => by
      rw [← f.w]
      exact ⟨_, ρ, res_set ok hl nd m, .new (grow_upd hl), q⟩
/-- sorted of a set, of a list of ints -/
theorem dc_sortSet {ns : List Int} [f : Fit X F] (hc : X.calm = true) (hn : ∀ ks : List Int, ks.Nodup → (∀ k, k ∈ ks ↔ k ∈ ns) → ks.length < 64) (q : ∀ ms : List Int, ms.Pairwise (· < ·) → (∀ k, k ∈ ms ↔ k ∈ ns) → Q (.own (.lst (ms.map D.int))) ρ) : DC X F (.builtin "sorted") [.set ns] ρ Q := fun σ H vs ok r => by
  cases r with
  | cons r t =>
    cases t
    cases r with
    | set h nd m n =>
      refine b_sortSet hc (by rw [← f.w]; exact h) (hn _ nd m) fun ms l h1 h2 hl => ⟨_, ρ, res_own ok hl (RepL.ofInts ms), .new (grow_upd hl), q ms h1 fun k => ?_⟩
      rw [h2 k]
      exact decide_eq_true_iff
theorem dc_sortL {ns : List Int} [f : Fit X F] (q : ∀ ms : List Int, ms.Perm ns → ms.Pairwise (· ≤ ·) → Q (.own (.lst (ms.map D.int))) ρ) : DC X F (.builtin "sorted") [.lst (ns.map D.int)] ρ Q := fun σ H vs ok r => by
  cases r with
  | cons r t =>
    cases t
    obtain ⟨a, rfl, hx⟩ := lstInts r
    exact b_sortL (by rw [← f.K]; exact hx) fun ms l h1 h2 hl => ⟨_, ρ, res_own ok hl (RepL.ofInts ms), .new (grow_upd hl), q ms h1 h2⟩
theorem bls_rep {K : PySem.W.Frag} {w : World} {cl : Nm} {O : Addr → Prop} : ∀ {vs : List V} {bs : List Bool}, RepL K w cl O H vs (bs.map D.bl) → vs = bs.map V.bl
  | _, [], .nil => rfl
  | _, b :: bs, .cons r t => by rw [r.blV, bls_rep t]; rfl
theorem dc_all {bs : List Bool} [f : Fit X F] (hc : X.calm = true) (q : Q (.bl (bs.all id)) ρ) : DC X F (.builtin "all") [.lst (bs.map D.bl)] ρ Q := fun σ H vs ok r => by
  cases r with
  | cons r t =>
    cases t
    obtain ⟨a, xs, rfl, hx, r⟩ := r.lstRef
    rw [bls_rep r] at hx
    exact b_all hc (by rw [← f.K]; exact hx) (res_same ok (.bl _) q)
theorem dc_min {ns : List Int} [f : Fit X F] (hc : X.calm = true) (hn : 0 < ns.length) (q : ∀ m, m ∈ ns → (∀ y ∈ ns, m ≤ y) → Q (.int m) ρ) : DC X F (.builtin "min") [.lst (ns.map D.int)] ρ Q := fun σ H vs ok r => by
  cases r with
  | cons r t =>
    cases t
    obtain ⟨a, rfl, hx⟩ := lstInts r
    exact rc_of (cr_min hc) ⟨a, ns, rfl, by rw [← f.K]; exact hx, hn, fun m h1 h2 => res_same ok (.int _) (q m h1 h2)⟩
theorem dc_max {ns : List Int} [f : Fit X F] (hc : X.calm = true) (hn : 0 < ns.length) (q : ∀ m, m ∈ ns → (∀ y ∈ ns, y ≤ m) → Q (.int m) ρ) : DC X F (.builtin "max") [.lst (ns.map D.int)] ρ Q := fun σ H vs ok r => by
  cases r with
  | cons r t =>
    cases t
    obtain ⟨a, rfl, hx⟩ := lstInts r
    exact rc_of (cr_max hc) ⟨a, ns, rfl, by rw [← f.K]; exact hx, hn, fun m h1 h2 => res_same ok (.int _) (q m h1 h2)⟩
theorem dc_sum {ns : List Int} [f : Fit X F] (hc : X.calm = true) (q : Q (.int ns.sum) ρ) : DC X F (.builtin "sum") [.lst (ns.map D.int)] ρ Q := fun σ H vs ok r => by
  cases r with
  | cons r t =>
    cases t
    obtain ⟨a, rfl, hx⟩ := lstInts r
    exact rc_of (cr_sum hc) ⟨a, ns, rfl, by rw [← f.K]; exact hx, res_same ok (.int _) q⟩
theorem dc_gcd (q : Q (.int ((Nat.gcd i.natAbs j.natAbs : Nat) : Int)) ρ) : DC X F (.builtin "math.gcd") [.int i, .int j] ρ Q := fun σ H vs ok r => by
  cases r with
  | cons r t => cases t with
    | cons r2 t => cases t; rw [r.intV, r2.intV]; exact rc_of cr_gcd ⟨i, j, rfl, res_same ok (.int _) q⟩
/-- calls of built-ins by name, over their arguments -/
def DB (X : Cx) (F : Fx) (f : Value) (es : List Expr) (ρ : En) (Q : DQ) : Prop := DA X F es ρ fun as ρ1 => ∃ ds, agV as = some ds ∧ DC X F f ds ρ1 Q
theorem db_run {f : Value} (h : DB X F f es ρ Q) (ok : Ok F H σ ρ) : RA X es σ H fun vs H1 => RC X f vs H1 fun z H' => ∃ d ρ', Res F H' σ z d ρ' ∧ Kp (Mut σ ρ) H (Mut σ ρ') H' ∧ Q d ρ' :=
  ra_mono (h σ H ok) fun vs H1 ⟨as, ρ1, ok1, ps, k1, ds, e, q⟩ => rc_mono (q σ H1 vs ok1 (ps.vals e)) fun z H2 ⟨d, ρ2, r, k2, q⟩ => ⟨d, ρ2, r, k1.trans k2, q⟩
theorem d_callB {id : String} {fp : Pos} (hg : Gl X x) (hm : X.mg x = none) (hv : bootBuiltins x = some (.builtin id)) (hn : x ≠ "__name__") (hd : (x == ("__debug__" : Str)) = false) (hs : starEach (e :: es) X.env = (false, eval e X.env) :: starEach es X.env) (hpl : (backTo pos (starEach es X.env)).any (·.1) = false)
    (q : DB X F (.builtin id) (e :: es) ρ Q) : DE X F (.Call (.Name x fp) (e :: es) [] pos) ρ Q := fun σ H ok => e_callB hg hm hv hn hd hs hpl (db_run q ok)
theorem d_callTy {T : String} {fp : Pos} (hg : Gl X x) (hm : X.mg x = none) (hv : bootBuiltins x = some (.type T)) (hn : x ≠ "__name__") (hd : (x == ("__debug__" : Str)) = false) (hs : starEach (e :: es) X.env = (false, eval e X.env) :: starEach es X.env) (hpl : (backTo pos (starEach es X.env)).any (·.1) = false)
    (q : DB X F (.type T) (e :: es) ρ Q) : DE X F (.Call (.Name x fp) (e :: es) [] pos) ρ Q := fun σ H ok => e_callTy hg hm hv hn hd hs hpl (db_run q ok)
/-- a name of the module that holds an int -/
theorem d_globI {k : Int} {tk : Tok} (hg : Gl X x) (hm : X.mg x = some (.int k tk)) (hd : (x == ("__debug__" : Str)) = false) (q : Q (.int k) ρ) : DE X F (.Name x pos) ρ Q := fun σ H ok => e_glob (v := .int k) hg hm ⟨tk, rfl⟩ hd (res_same ok (.int _) q)
theorem d_bltTy {T : String} (hg : Gl X x) (hm : X.mg x = none) (hv : bootBuiltins x = some (.type T)) (hn : x ≠ "__name__") (hd : (x == ("__debug__" : Str)) = false) (q : Q (.ty T) ρ) : DE X F (.Name x pos) ρ Q := fun σ H ok => e_bltn (v := .ty T) hg hm hv rfl hn hd (res_same ok (.ty _) q)
/-- len of a list that is kept -/
theorem d_lenO {d0 : D} {ds : List D} {fp np : Pos} [f : Fit X F] (B : Blt X.mg) (hg : Gl X "len") (h : (X.N.zip ρ).lookup x = some (some d0)) (hi : d0.items = some ds) (hv : Vis X.env.scope x) (hd : (x == ("__debug__" : Str)) = false) (hcd : (x == ("__classdict__" : Str)) = false)
    (hs : starEach [.Name x np] X.env = (false, eval (.Name x np) X.env) :: starEach [] X.env) (q : Q (.int ds.length) ρ) : DE X F (.Call (.Name "len" fp) [.Name x np] [] pos) ρ Q := fun σ H ok => by
  obtain ⟨i, h1, h2⟩ := look_en h
  obtain ⟨v, h3, h4⟩ := ok.slot i d0 h2
  obtain ⟨a, vs, rfl, hr, rl⟩ := h4.items hi
  refine e_b_len B hg hs rfl (a_cons hs (re_of (pe_var h1 hv hd hcd) ⟨_, h3, a_nil ?_⟩))
  refine b_lenL (xs := vs) (by rw [← f.K]; exact hr) ?_
  rw [rl.len]
  exact res_same ok (.int _) q
end
end Dx

end
section -- Dg
set_option maxRecDepth 100000
set_option maxHeartbeats 4000000
/-! Defs: what they are called with, what they give back; statements. -/
namespace Dx
open PySem PySem.Spec L2 Sx
open PyProof.Rows hiding St

/-- a promise by values: the arguments, what is wanted of the result and of what is lent -/
abbrev DSp := List D → (D → List MV → Prop) → Prop
inductive ArgsR (K : PySem.W.Frag) (w : World) (cl : Nm) (O : Addr → Prop) (H : Hp) : Option Addr → List V → List D → Prop where
  | nil : ArgsR K w cl O H none [] []
  | rep {ba : Option Addr} {v : V} {d : D} {vs : List V} {ds : List D} (r : Rep K w cl O H v d) (t : ArgsR K w cl O H ba vs ds) : ArgsR K w cl O H ba (v :: vs) (d :: ds)
  | bor {a : Addr} {us : HO} {xs : MV} {vs : List V} {ds : List D} (o : O a) (h : H a = some us) (r : MRep K w cl O H us xs) (t : ArgsR K w cl O H none vs ds) : ArgsR K w cl O H (some a) (.ref a :: vs) (.bor xs :: ds)
def orT (O : Addr → Prop) (t : Option Addr) (b : Addr) : Prop := O b ∨ t = some b
structure Ret (K : PySem.W.Frag) (w : World) (cl : Nm) (O : Addr → Prop) (H : Hp) (ba : Option Addr) (outs : List MV) (v : V) (H' : Hp) (d : D) (t : Option Addr) : Prop where
  keep : ∀ b o, H b = some o → ba ≠ some b → H' b = some o
  alloc : ∀ b, O b → Ch H' b
  out : ∀ a xs, ba = some a → outs = [xs] → ∃ us, H' a = some us ∧ MRep K w cl (orT O t) H' us xs
  res : t = none → Rep K w cl O H' v d
  new : ∀ a, t = some a → ∃ us ds, v = .ref a ∧ d = .own ds ∧ H a = none ∧ H' a = some us ∧ MRep K w cl (orT O t) H' us ds
def toSp (K : PySem.W.Frag) (w : World) (cl : Nm) (sp : DSp) : Sp := fun vs H Q _ => ∃ ds O ba K', (∀ b, O b → Ch H b) ∧ ArgsR K w cl O H ba vs ds ∧ sp ds K' ∧ ∀ d outs, K' d outs → ∀ v H' t, Ret K w cl O H ba outs v H' d t → Q v H'

section
variable {K : PySem.W.Frag} {w : World} {cl : Nm} {O : Addr → Prop} {H : Hp} {ba : Option Addr}
theorem ArgsR.len : ∀ {ba : Option Addr} {vs : List V} {ds : List D}, ArgsR K w cl O H ba vs ds → vs.length = ds.length
  | _, _, _, .nil => rfl
  | _, _, _, .rep _ t => by simp [ArgsR.len t]
  | _, _, _, .bor _ _ _ t => by simp [ArgsR.len t]
theorem ArgsR.of : ∀ {vs : List V} {ds : List D}, RepL K w cl O H vs ds → ArgsR K w cl O H none vs ds
  | _, _, .nil => .nil
  | _, _, .cons r t => .rep r (ArgsR.of t)
/-- what stands at the i-th place -/
theorem ArgsR.get : ∀ {ba : Option Addr} {vs : List V} {ds : List D} {i : Nat} {d : D}, ArgsR K w cl O H ba vs ds → ds[i]? = some d →
    ∃ v, vs[i]? = some v ∧ (Rep K w cl O H v d ∨ ∃ a us xs, ba = some a ∧ d = .bor xs ∧ v = .ref a ∧ O a ∧ H a = some us ∧ MRep K w cl O H us xs)
  | _, _, _, _, _, .nil, e => by simp at e
  | _, _, _, 0, _, .rep r _, e => by simp at e; subst e; exact ⟨_, rfl, .inl r⟩
  | _, _, _, 0, _, .bor o h r _, e => by simp at e; subst e; exact ⟨_, rfl, .inr ⟨_, _, _, rfl, rfl, rfl, o, h, r⟩⟩
  | _, _, _, i + 1, _, .rep _ t, e => by
    obtain ⟨v, h1, h2⟩ := ArgsR.get t (i := i) (by simpa using e)
    exact ⟨v, by simpa using h1, h2⟩
  | _, _, _, i + 1, _, .bor _ _ _ t, e => by
    obtain ⟨v, h1, h2⟩ := ArgsR.get t (i := i) (by simpa using e)
    refine ⟨v, by simpa using h1, ?_⟩
    rcases h2 with h2 | ⟨a, us, xs, h2, _⟩
    · exact .inl h2
    · cases h2
theorem ArgsR.two : ∀ {ba : Option Addr} {vs : List V} {ds : List D} {i j : Nat} {xs ys : MV}, ArgsR K w cl O H ba vs ds → ds[i]? = some (.bor xs) → ds[j]? = some (.bor ys) → i = j
  | _, _, _, _, _, _, _, .nil, e, _ => by simp at e
  | _, _, _, 0, 0, _, _, _, _, _ => rfl
  | _, _, _, 0, j + 1, _, _, .rep r t, e, _ => by simp at e; subst e; exact r.noBor.elim
  | _, _, _, 0, j + 1, _, _, .bor _ _ _ t, _, f => by
    obtain ⟨v, _, h⟩ := ArgsR.get t (i := j) (by simpa using f)
    rcases h with h | ⟨_, _, _, h, _⟩
    · exact h.noBor.elim
    · cases h
  | _, _, _, i + 1, 0, _, _, .rep r t, _, f => by simp at f; subst f; exact r.noBor.elim
  | _, _, _, i + 1, 0, _, _, .bor _ _ _ t, e, _ => by
    obtain ⟨v, _, h⟩ := ArgsR.get t (i := i) (by simpa using e)
    rcases h with h | ⟨_, _, _, h, _⟩
    · exact h.noBor.elim
    · cases h
  | _, _, _, i + 1, j + 1, _, _, .rep _ t, e, f => by rw [ArgsR.two t (i := i) (j := j) (by simpa using e) (by simpa using f)]
  | _, _, _, i + 1, j + 1, _, _, .bor _ _ _ t, e, f => by rw [ArgsR.two t (i := i) (j := j) (by simpa using e) (by simpa using f)]
end

/-! ### the slots at the start of a def -/
def fx0 (K : PySem.W.Frag) (w : World) (cl : Nm) (H : Hp) (O : Addr → Prop) (ba : Option Addr) : Fx := ⟨K, w, cl, H, fun b => ba = some b, O, []⟩
def startE (N : List Str) (ds : List D) : En := ds.map some ++ List.replicate (N.length - ds.length) none
section
variable {K : PySem.W.Frag} {w : World} {cl : Nm} {O : Addr → Prop} {H : Hp} {ba : Option Addr} {vs : List V} {ds : List D} {N : List Str}
theorem startE_get {i : Nat} {d : D} (h : (startE N ds)[i]? = some (some d)) : ds[i]? = some d := by
  unfold startE at h
  by_cases hi : i < ds.length
  · rw [List.getElem?_append_left (by rw [List.length_map]; exact hi), List.getElem?_map] at h
    cases e : ds[i]? with
    | none => rw [e] at h; cases h
    | some x => rw [e] at h; simp at h; rw [h]
  · rw [List.getElem?_append_right (by rw [List.length_map]; omega)] at h
    have := List.mem_of_getElem? h
    simp at this
theorem start_get {i : Nat} {v : V} (h : vs[i]? = some v) : (L2.start N vs)[i]? = some (some v) := by
  unfold L2.start
  obtain ⟨hi, e⟩ := List.getElem?_eq_some_iff.mp h
  rw [List.getElem?_append_left (by rw [List.length_map]; exact hi), List.getElem?_map, h]
  rfl
theorem ok_start (ho : ∀ b, O b → Ch H b) (r : ArgsR K w cl O H ba vs ds) : Ok (fx0 K w cl H O ba) H (L2.start N vs) (startE N ds) := by
  have hb : ∀ b, ba = some b → O b := by
    intro b hb
    subst hb
    clear ho
    induction vs generalizing ds with
    | nil => cases r
    | cons v vs ih =>
      cases r with
      | rep _ t => exact ih t
      | bor o _ _ _ => exact o
  have hm : ∀ b, Av (fx0 K w cl H O ba) (L2.start N vs) (startE N ds) b → O b := by
    intro b q
    rcases q with q | ⟨i, ⟨xs, hx⟩, hi⟩
    · exact q
    · rcases hx with hx | hx
      · obtain ⟨v, _, h2⟩ := r.get (startE_get hx)
        rcases h2 with h2 | ⟨_, _, _, _, h2, _⟩
        · exact h2.noOwn.elim
        · cases h2
      · obtain ⟨v, h1, h2⟩ := r.get (startE_get hx)
        rcases h2 with h2 | ⟨a, us, ys, _, _, rfl, h3, _⟩
        · exact h2.noBor.elim
        · rw [start_get h1] at hi
          cases hi
          exact h3
  have kp : Kp O H (Av (fx0 K w cl H O ba) (L2.start N vs) (startE N ds)) H := .weak hm
  exact {
    len := by unfold startE L2.start; simp [r.len]
    slot := fun i d h => by
      obtain ⟨v, h1, h2⟩ := r.get (startE_get h)
      refine ⟨v, start_get h1, ?_⟩
      rcases h2 with h2 | ⟨a, us, xs, e1, rfl, rfl, h3, h4, h5⟩
      · exact .rep (Rep.step kp h2)
      · exact .bor h4 e1 (MRep.step h5 kp)
    dist := fun i j b n ⟨xs, hx⟩ ⟨ys, hy⟩ _ _ => by
      have g : ∀ {i : Nat} {xs : MV}, ((startE N ds)[i]? = some (some (.own xs)) ∨ (startE N ds)[i]? = some (some (.bor xs))) → ds[i]? = some (.bor xs) := by
        intro i xs hx
        rcases hx with hx | hx
        · obtain ⟨v, _, h2⟩ := r.get (startE_get hx)
          rcases h2 with h2 | ⟨_, _, _, _, h2, _⟩
          · exact h2.noOwn.elim
          · cases h2
        · exact startE_get hx
      exact n (r.two (g hx) (g hy))
    keep := fun b o h _ => h
    out := ho
    bo := hb
    held := fun p hp => by cases hp }
/-- what is given back of what was lent -/
def outs : List D → En → List MV
  | .bor _ :: _, some (.bor xs) :: _ => [xs]
  | .bor _ :: _, _ => []
  | _ :: ds, _ :: ρ => outs ds ρ
  | _, _ => []
theorem outs_get : ∀ {ds : List D} {ρ : En} {xs : MV}, outs ds ρ = [xs] → ∃ (i : Nat) (ys : MV), ds[i]? = some (D.bor ys) ∧ ρ[i]? = some (some (D.bor xs))
  | [], ρ, xs, h => by simp [outs] at h
  | d :: ds, [], xs, h => by cases d <;> simp [outs] at h
  | d :: ds, o :: ρ, xs, h => by
    cases d with
    | bor ys =>
      cases o with
      | none => simp [outs] at h
      | some z =>
        cases z with
        | bor zs => simp [outs] at h; subst h; exact ⟨0, ys, rfl, rfl⟩
        | _ => simp [outs] at h
    | _ =>
      obtain ⟨i, ys, h1, h2⟩ := outs_get (ds := ds) (ρ := ρ) (by simpa only [outs] using h)
      exact ⟨i + 1, ys, by simpa using h1, by simpa using h2⟩
theorem ret_of {σ : St} {ρ : En} {v : V} {H' : Hp} {d : D} (res : Res (fx0 K w cl H O ba) H' σ v d ρ) : ∃ t, Ret K w cl O H ba (outs ds ρ) v H' d t := by
  have ok := res.ok
  have sl : ∀ {F : Fx} {xs : MV}, F.B = (fun b => ba = some b) → Ok F H' σ ρ → outs ds ρ = [xs] → ∃ a us, ba = some a ∧ H' a = some us ∧ F.M (Av F σ ρ) H' us xs := by
    intro F xs hB ok e
    obtain ⟨i, ys, h1, h2⟩ := outs_get e
    obtain ⟨v, _, h⟩ := ok.slot i _ h2
    cases h with
    | bor h b r => rw [hB] at b; exact ⟨_, _, b, h, r⟩
    | rep r => exact r.noBor.elim
  cases res with
  | rep ok r =>
    refine ⟨none, fun b o h n => ok.keep b o h n, ok.out, fun a xs ha e => ?_, fun _ => Rep.step (.weak fun b q => .inl q) r, fun a h => by cases h⟩
    obtain ⟨a', us, hb, h1, h2⟩ := sl rfl ok e
    rw [ha] at hb
    cases hb
    exact ⟨us, h1, MRep.step h2 (.weak fun b q => by rcases q with q | q; exact .inl q; cases q)⟩
  | own ha h0 no nb nm ok' r =>
    rename_i a' us' ds'
    have wk : Kp (Av (Fx.out (fx0 K w cl H O ba) a') σ ρ) H' (orT O (some a')) H' := .weak fun b q => by
      rcases q with q | q
      · exact .inl (.inl q)
      · cases q; exact .inl (.inr rfl)
    refine ⟨some a', fun b o h n => ok.keep b o h n, ok.out, fun a xs ha e => ?_, fun h => (by cases h), fun a h => ?_⟩
    · obtain ⟨a2, us, hb, h1, h2⟩ := sl (F := (fx0 K w cl H O ba).out a') rfl ok' e
      rw [ha] at hb
      cases hb
      exact ⟨us, h1, MRep.step h2 wk⟩
    · cases h
      exact ⟨_, _, rfl, rfl, h0, ha, MRep.step r wk⟩
end
/-! ### statements -/
structure DEnds where
  nx : En → Prop
  rt : D → En → Prop
  bk : En → Prop
  ct : En → Prop
def up (F : Fx) (N : En → Prop) : St → Hp → Prop := fun σ H => ∃ ρ, Ok F H σ ρ ∧ N ρ
def upR (F : Fx) (R : D → En → Prop) : VK := fun v H => ∃ σ d ρ, Res F H σ v d ρ ∧ R d ρ
def ends (F : Fx) (E : DEnds) : Ends := ⟨up F E.nx, upR F E.rt, up F E.bk, up F E.ct⟩
def DS (X : Cx) (F : Fx) (st : Stmt) (E : DEnds) (ρ : En) : Prop := ∀ σ H, Ok F H σ ρ → RS X st (ends F E) σ H
def DSs (X : Cx) (F : Fx) (sts : List Stmt) (E : DEnds) (ρ : En) : Prop := ∀ σ H, Ok F H σ ρ → RSs X sts (ends F E) σ H
/-- a target -/
def DG (X : Cx) (F : Fx) (tg : Expr) (d : D) (ρ : En) (N : En → Prop) : Prop := ∀ σ H v, Ok F H σ ρ → F.R (Av F σ ρ) H v d → RG X tg v σ H fun σ' H' => ∃ ρ', Ok F H' σ' ρ' ∧ Kp (Av F σ ρ) H (Av F σ' ρ') H' ∧ N ρ'
def DGs (X : Cx) (F : Fx) (tg : List Expr) (ds : List D) (ρ : En) (N : En → Prop) : Prop := ∀ σ H vs, Ok F H σ ρ → F.L (Av F σ ρ) H vs ds → RGs X tg vs σ H fun σ' H' => ∃ ρ', Ok F H' σ' ρ' ∧ Kp (Av F σ ρ) H (Av F σ' ρ') H' ∧ N ρ'
section
variable {X : Cx} {F : Fx} {e a b c o : Expr} {es : List Expr} {st : Stmt} {sts rest A B : List Stmt} {ρ ρ' ρ1 : En} {σ : St} {H H' : Hp} {pos p pos' : Pos} {x : Str} {d : D} {v u : V} {i j : Int} {nx bk ct : En → Prop} {rt' : D → En → Prop} {E : DEnds}
theorem rsx_mono {R E : Ends} (h : RSs X sts R σ H) (h1 : ∀ σ H, R.nx σ H → E.nx σ H) (h2 : ∀ v H, R.rt v H → E.rt v H) (h3 : ∀ σ H, R.bk σ H → E.bk σ H) (h4 : ∀ σ H, R.ct σ H → E.ct σ H) : RSs X sts E σ H := fun pins s I => thn (h pins s I) fun f s' q => by
  cases f with
  | next => obtain ⟨σ', H', I', q⟩ := q; exact ⟨σ', H', I', h1 _ _ q⟩
  | brk => obtain ⟨σ', H', I', q⟩ := q; exact ⟨σ', H', I', h3 _ _ q⟩
  | cont => obtain ⟨σ', H', I', q⟩ := q; exact ⟨σ', H', I', h4 _ _ q⟩
  | ret u => obtain ⟨σ', v, H', I', r, q⟩ := q; exact ⟨σ', v, H', I', r, h2 _ _ q⟩
theorem ds_nil (q : E.nx ρ) : DSs X F [] E ρ := fun σ H ok => ss_nil ⟨ρ, ok, q⟩
theorem ds_cons (q : DS X F st ⟨fun ρ1 => DSs X F rest E ρ1, E.rt, E.bk, E.ct⟩ ρ) : DSs X F (st :: rest) E ρ := fun σ H ok => by
  refine ss_cons ?_
  have h := q σ H ok
  refine fun pins s I => thn (h pins s I) fun f s' q => ?_
  cases f with
  | next => obtain ⟨σ', H', I', ρ1, ok1, q⟩ := q; exact ⟨σ', H', I', q σ' H' ok1⟩
  | brk => exact q
  | cont => exact q
  | ret u => exact q
theorem ds_pass (q : E.nx ρ) : DS X F (.Pass pos) E ρ := fun σ H ok => s_pass ⟨ρ, ok, q⟩
theorem ds_break (q : E.bk ρ) : DS X F (.Break pos) E ρ := fun σ H ok => s_break ⟨ρ, ok, q⟩
theorem ds_continue (q : E.ct ρ) : DS X F (.Continue pos) E ρ := fun σ H ok => s_continue ⟨ρ, ok, q⟩
theorem ds_expr (hs : swapsWith e none pos.line X.env = pure false) (q : DE X F e ρ fun _ ρ1 => E.nx ρ1) : DS X F (.Expr e pos) E ρ := fun σ H ok => s_expr hs (de_run q ok fun v H1 x ρ1 ok1 r1 k1 q1 => ⟨ρ1, ok1, q1⟩)
theorem ds_ret (q : DE X F e ρ E.rt) : DS X F (.Return (some e) pos) E ρ := fun σ H ok => s_ret (re_mono (q σ H ok) fun v H1 ⟨d, ρ1, r, k, q⟩ => ⟨σ, d, ρ1, r, q⟩)
theorem ds_retN (q : E.rt .non ρ) : DS X F (.Return none pos) E ρ := fun σ H ok => s_retN ⟨σ, .non, ρ, .rep ok .non, q⟩
theorem ds_if (q : DT X F c ρ fun k ρ1 => if k = true then DSs X F A E ρ1 else DSs X F B E ρ1) : DS X F (.If c A B pos) E ρ := fun σ H ok => s_if (dt_run q ok fun k H1 ρ1 ok1 k1 q1 => by
  cases k with
  | true => exact iteT ((show DSs X F A E ρ1 from q1) σ H1 ok1)
  | false => exact iteF ((show DSs X F B E ρ1 from q1) σ H1 ok1))
/-- x = e, a value that stays -/
theorem ds_set (hN : X.N.Nodup) (hi : X.N.contains x = true) (hx : Loc X.env.scope x) (hf : X.fn x = true ∨ X.env.scope.names.lookup x = some .local) (hs : swapsWith e (some (.Name x pos')) pos.line X.env = pure false)
    (q : DE X F e ρ fun d ρ1 => E.nx (setE X.N ρ1 x (some d.fz))) : DS X F (.Assign [.Name x pos'] e pos) E ρ := fun σ H ok => by
  obtain ⟨i, h⟩ := idx_of hi
  refine s_set (σ' := σ) hN hi hx hf hs (de_run q ok fun v H1 x1 ρ1 ok1 r1 k1 q1 => ?_)
  rw [setE_eq h hN] at q1
  rw [setN_eq h hN]
  exact ⟨_, ok1.set r1, q1⟩
/-- x = e, a list of its own -/
theorem ds_own (hN : X.N.Nodup) (hi : X.N.contains x = true) (hx : Loc X.env.scope x) (hf : X.fn x = true ∨ X.env.scope.names.lookup x = some .local) (hs : swapsWith e (some (.Name x pos')) pos.line X.env = pure false)
    (q : DE X F e ρ fun d ρ1 => ∃ ds, d = .own ds ∧ E.nx (setE X.N ρ1 x (some (.own ds)))) : DS X F (.Assign [.Name x pos'] e pos) E ρ := fun σ H ok => by
  obtain ⟨i, h⟩ := idx_of hi
  refine s_set (σ' := σ) hN hi hx hf hs (re_mono (q σ H ok) fun v H1 ⟨d, ρ1, r, k, ds, hd, q⟩ => ?_)
  subst hd
  rw [setE_eq h hN] at q
  rw [setN_eq h hN]
  cases r with
  | rep ok r => exact r.noOwn.elim
  | own ha h0 no nb nm ok1 r => exact ⟨_, ok1.setOwn ha h0 no nb nm r, q⟩
/-- targets -/
theorem ds_asg {tg : Expr} (hs : swapsWithSole [tg] e pos.line X.env = pure false) (hw : swappedStores [tg] e X.env = pure none) (h1 : (assignEach [tg] X.env).map (·.2) = [assign tg X.env])
    (q : DE X F e ρ fun d ρ1 => DG X F tg d.fz ρ1 E.nx) : DS X F (.Assign [tg] e pos) E ρ := fun σ H ok => s_asg hs hw h1 (de_run q ok fun v H1 x1 ρ1 ok1 r1 k1 q1 => by
  refine fun pins s u I r => thn (q1 σ H1 v ok1 r1 pins s u I r) fun _ s' ⟨σ', H', I', ρ', ok', _, q⟩ => ⟨σ', H', I', ρ', ok', q⟩)
theorem rg_mono {tg : Expr} {R Q : St → Hp → Prop} (h : RG X tg v σ H R) (k : ∀ σ H, R σ H → Q σ H) : RG X tg v σ H Q := fun pins s u I r => thn (h pins s u I r) fun _ s' ⟨σ', H', I', q⟩ => ⟨σ', H', I', k _ _ q⟩
theorem rgs_mono {tg : List Expr} {vs : List V} {R Q : St → Hp → Prop} (h : RGs X tg vs σ H R) (k : ∀ σ H, R σ H → Q σ H) : RGs X tg vs σ H Q := fun pins s u I r => thn (h pins s u I r) fun _ s' ⟨σ', H', I', q⟩ => ⟨σ', H', I', k _ _ q⟩
theorem Kp.set {k : Nat} (r : F.R (Av F σ ρ) H v d) : Kp (Av F σ ρ) H (Av F (σ.set k (some v)) (ρ.set k (some d))) H := .weak fun b q => by
  rcases q with q | ⟨j, m, e⟩
  · exact .inl q
  · rcases isM_set m with ⟨_, ds, h⟩ | ⟨n, m⟩
    · rcases h with h | h
      · cases h; exact r.noOwn.elim
      · cases h; exact r.noBor.elim
    · rw [List.getElem?_set_ne (fun q => n q.symm)] at e
      exact .inr ⟨j, m, e⟩
theorem dg_name {N : En → Prop} (hN : X.N.Nodup) (hi : X.N.contains x = true) (hx : Loc X.env.scope x) (hf : X.fn x = true ∨ X.env.scope.names.lookup x = some .local) (q : N (setE X.N ρ x (some d))) : DG X F (.Name x pos) d ρ N := fun σ H v ok r => by
  obtain ⟨i, h⟩ := idx_of hi
  refine g_name hN hi hx hf ?_
  rw [setE_eq h hN] at q
  rw [setN_eq h hN]
  exact ⟨_, ok.set r, Kp.set r, q⟩
theorem dgs_nil {N : En → Prop} (q : N ρ) : DGs X F [] [] ρ N := fun σ H vs ok r => by
  cases r
  exact gs_nil ⟨ρ, ok, .refl, q⟩
theorem dgs_cons {N : En → Prop} {ds : List D} (hs : (assignEach (e :: es) X.env).map (·.2) = assign e X.env :: (assignEach es X.env).map (·.2)) (q : DG X F e d ρ fun ρ1 => DGs X F es ds ρ1 N) : DGs X F (e :: es) (d :: ds) ρ N := fun σ H vs ok r => by
  cases r with
  | cons r t => exact gs_cons hs (rg_mono (q σ H _ ok r) fun σ1 H1 ⟨ρ1, ok1, k1, q1⟩ => rgs_mono (q1 σ1 H1 _ ok1 (t.step k1)) fun σ2 H2 ⟨ρ2, ok2, k2, q2⟩ => ⟨ρ2, ok2, k1.trans k2, q2⟩)
theorem dg_tup {N : En → Prop} {k n : Nat} {ds : List D} [f : Fit X F] (hc : X.calm = true) (hn : (assignEach es X.env).length = n) (hst : (assignEach es X.env).findIdx? (·.1) = none) (hl : ds.length = n) (q : DGs X F es ds ρ N) : DG X F (.Tuple es k pos) (.tup ds) ρ N := fun σ H v ok r => by
  obtain ⟨a, xs, rfl, hx, r⟩ := r.tupRef
  exact g_tup hc hn hst (by rw [← f.K]; exact hx) (by rw [r.len]; exact hl) (q σ H xs ok r)
/-- the list in a slot gets other items -/
theorem Ok.putM {k : Nat} {a : Addr} {us : HO} {ds ds' : MV} (ok : Ok F H σ ρ) (hk : ρ[k]? = some (some (.own ds)) ∨ ρ[k]? = some (some (.bor ds))) (hσ : σ[k]? = some (some (.ref a))) (r : F.M (Av F σ ρ) H us ds') (ρ' : En)
    (hρ : (ρ[k]? = some (some (.own ds)) ∧ ρ' = ρ.set k (some (.own ds'))) ∨ (ρ[k]? = some (some (.bor ds)) ∧ ρ' = ρ.set k (some (.bor ds')))) : Ok F (upd H a us) σ ρ' ∧ Kp (Mut σ ρ) H (Mut σ ρ') (upd H a us) := by
  have isM : ∀ j, IsM ρ' j → IsM ρ j := by
    intro j m
    rcases hρ with ⟨h, rfl⟩ | ⟨h, rfl⟩
    · rcases isM_set m with ⟨rfl, _, _⟩ | ⟨_, m⟩
      · exact ⟨ds, .inl h⟩
      · exact m
    · rcases isM_set m with ⟨rfl, _, _⟩ | ⟨_, m⟩
      · exact ⟨ds, .inr h⟩
      · exact m
  have mM : Mut σ ρ a := ⟨k, ⟨ds, hk⟩, hσ⟩
  have kp : Kp (Mut σ ρ) H (Mut σ ρ') (upd H a us) := ⟨fun b o h n => by
    rw [upd_ne (fun e => n (by rw [e]; exact mM))]; exact h, fun b o h n ⟨j, m, e⟩ => n ⟨j, isM j m, e⟩⟩
  have kpA : Kp (Av F σ ρ) H (Av F σ ρ') (upd H a us) := kp.mut
  refine ⟨?_, kp⟩
  have hsl : ∃ vs, H a = some vs ∧ chg vs = true := ok.mut mM
  exact {
    len := by rcases hρ with ⟨_, rfl⟩ | ⟨_, rfl⟩ <;> (rw [List.length_set]; exact ok.len)
    slot := fun j x hx => by
      by_cases e : k = j
      · subst e
        have old : ∃ o, ρ[k]? = some (some o) ∧ Slot F (Av F σ ρ) H (.ref a) o := by
          rcases hk with h | h <;> (obtain ⟨v, e1, e2⟩ := ok.slot k _ h; rw [hσ] at e1; cases e1; exact ⟨_, h, e2⟩)
        obtain ⟨o, ho, sl⟩ := old
        rcases hρ with ⟨h, rfl⟩ | ⟨h, rfl⟩
        · rw [List.getElem?_set] at hx
          simp at hx
          obtain ⟨_, rfl⟩ := hx
          rw [h] at ho
          cases ho
          cases sl with
          | own h1 n o r1 => exact ⟨_, hσ, .own upd_same n o (MRep.step r kpA)⟩
          | rep r1 => exact r1.noOwn.elim
        · rw [List.getElem?_set] at hx
          simp at hx
          obtain ⟨_, rfl⟩ := hx
          rw [h] at ho
          cases ho
          cases sl with
          | bor h1 n r1 => exact ⟨_, hσ, .bor upd_same n (MRep.step r kpA)⟩
          | rep r1 => exact r1.noBor.elim
      · have hx' : ρ[j]? = some (some x) := by
          rcases hρ with ⟨_, rfl⟩ | ⟨_, rfl⟩ <;> (rw [List.getElem?_set_ne e] at hx; exact hx)
        obtain ⟨v, e1, e2⟩ := ok.slot j x hx'
        refine ⟨v, e1, e2.step kpA fun b vs hv m h => ?_⟩
        subst hv
        have hne : b ≠ a := by
          intro q
          subst q
          refine ok.dist k j b e ⟨ds, hk⟩ ?_ hσ e1
          rcases m with ⟨zs, rfl⟩ | ⟨zs, rfl⟩
          · exact ⟨zs, .inl hx'⟩
          · exact ⟨zs, .inr hx'⟩
        rw [upd_ne hne]
        exact h
    dist := fun i j b n m1 m2 e1 e2 => ok.dist i j b n (isM i m1) (isM j m2) e1 e2
    keep := fun b o h n => by
      have hne : b ≠ a := by
        intro q
        subst q
        rcases hk with hk | hk
        · obtain ⟨v, e1, e2⟩ := ok.slot k _ hk
          rw [hσ] at e1
          cases e1
          cases e2 with
          | own _ n0 _ _ => rw [n0] at h; cases h
          | rep r => exact r.noOwn
        · obtain ⟨v, e1, e2⟩ := ok.slot k _ hk
          rw [hσ] at e1
          cases e1
          cases e2 with
          | bor _ b _ => exact n b
          | rep r => exact r.noBor
      rw [upd_ne hne]
      exact ok.keep b o h n
    out := fun b h => by
      obtain ⟨o, e, c⟩ := ok.out b h
      by_cases q : b = a
      · subst q; exact ⟨_, upd_same, r.chg⟩
      · exact ⟨o, by rw [upd_ne q]; exact e, c⟩
    bo := ok.bo
    held := fun p hp => p.st _ _ _ _ (ok.held p hp) kpA }
/-- what a slot keeps that may change -/
def D.mv : D → Option MV
  | .own m => some m
  | .bor m => some m
  | _ => none
/-- the same slot with another thing -/
def D.putM : D → MV → D
  | .own _, m => .own m
  | .bor _, m => .bor m
  | d, _ => d
def D.put (d : D) (ds : List D) : D := d.putM (.lst ds)
theorem D.mutIs_mv {d : D} {ds : List D} (h : d.mutIs = some ds) : d.mv = some (.lst ds) := by
  unfold D.mutIs at h
  split at h
  · cases h; rfl
  · cases h; rfl
  · cases h
theorem Ok.putV {k : Nat} {d0 : D} {m : MV} (ok : Ok F H σ ρ) (hk : ρ[k]? = some (some d0)) (hm : d0.mv = some m) : ∃ a u, σ[k]? = some (some (.ref a)) ∧ H a = some u ∧ F.M (Av F σ ρ) H u m ∧
    ∀ u' m', F.M (Av F σ ρ) H u' m' → Ok F (upd H a u') σ (ρ.set k (some (d0.putM m'))) ∧ Kp (Mut σ ρ) H (Mut σ (ρ.set k (some (d0.putM m')))) (upd H a u') := by
  obtain ⟨v, e1, e2⟩ := ok.slot k d0 hk
  cases d0 with
  | own xs =>
    cases hm
    cases e2 with
    | own h n o r => exact ⟨_, _, e1, h, r, fun us' ds' r' => ok.putM (.inl hk) e1 r' _ (.inl ⟨hk, rfl⟩)⟩
    | rep r => exact r.noOwn.elim
  | bor xs =>
    cases hm
    cases e2 with
    | bor h n r => exact ⟨_, _, e1, h, r, fun us' ds' r' => ok.putM (.inr hk) e1 r' _ (.inr ⟨hk, rfl⟩)⟩
    | rep r => exact r.noBor.elim
  | _ => cases hm
theorem Ok.put {k : Nat} {d0 : D} {ds : List D} (ok : Ok F H σ ρ) (hk : ρ[k]? = some (some d0)) (hm : d0.mutIs = some ds) : ∃ a us, σ[k]? = some (some (.ref a)) ∧ H a = some (.lst us) ∧ F.L (Av F σ ρ) H us ds ∧
    ∀ us' ds', F.L (Av F σ ρ) H us' ds' → Ok F (upd H a (.lst us')) σ (ρ.set k (some (d0.put ds'))) ∧ Kp (Mut σ ρ) H (Mut σ (ρ.set k (some (d0.put ds')))) (upd H a (.lst us')) := by
  obtain ⟨a, u, e1, e2, e3, e4⟩ := ok.putV hk (D.mutIs_mv hm)
  obtain ⟨us, rfl, r⟩ := e3.lstR
  exact ⟨a, us, e1, e2, r, fun us' ds' r' => e4 _ _ (.lst r')⟩
end
end Dx

end
section -- Dh
set_option maxRecDepth 100000
set_option maxHeartbeats 4000000
/-! Lists that change, calls, loops, comprehensions. -/
namespace Dx
open PySem PySem.Spec L2 Sx
open PyProof.Rows hiding St

section
variable {X : Cx} {F : Fx} {e a b c o : Expr} {es : List Expr} {st : Stmt} {sts rest A B body : List Stmt} {ρ ρ' ρ1 : En} {σ : St} {H H' : Hp} {pos p pos' apos np : Pos} {x : Str} {d d0 : D} {v u : V} {i j : Int} {E : DEnds} {Q : DQ}
theorem slot_ix {N : List Str} {ρ ρ2 : En} {d0 d1 : D} (hN : N.Nodup) (h : (N.zip ρ).lookup x = some (some d0)) (g : (N.zip ρ2).lookup x = some (some d1)) : ∃ k : Nat, N[k]? = some x ∧ ρ[k]? = some (some d0) ∧ ρ2[k]? = some (some d1) := by
  obtain ⟨k, h1, h2⟩ := look_en h
  obtain ⟨k', h1', h2'⟩ := look_en g
  have ek : k = k' := by
    obtain ⟨l1, e1⟩ := List.getElem?_eq_some_iff.mp h1
    obtain ⟨l2, e2⟩ := List.getElem?_eq_some_iff.mp h1'
    exact (List.getElem_inj hN).mp (e1.trans e2.symm)
  subst ek
  exact ⟨k, h1, h2, h2'⟩
/-- x[e] = .. of a list of one's own -/
theorem dg_sub {N : En → Prop} (hN : X.N.Nodup) (ha : ∀ y, assign (.Subscript (.Name x np) a pos) X.env y = (do let z ← holding [y] (eval (.Name x np) X.env); let i ← holding [y, z] (eval a X.env); standAt pos; holding [y, z, i] (setItem z i y); release [y, z, i] []))
    (h : (X.N.zip ρ).lookup x = some (some d0)) (hv : Vis X.env.scope x) (hd : (x == ("__debug__" : Str)) = false) (hcd : (x == ("__classdict__" : Str)) = false)
    (q : DE X F a ρ fun y ρ1 => ∃ i k d1 ds, y = .int i ∧ (X.N.zip ρ1).lookup x = some (some d1) ∧ d1.mutIs = some ds ∧ ixN ds.length i = some k ∧ N (setE X.N ρ1 x (some (d1.put (ds.set k d))))) : DG X F (.Subscript (.Name x np) a pos) d ρ N := fun σ H v ok r => by
  obtain ⟨i0, h1, h2⟩ := look_en h
  obtain ⟨w0, h3, h4⟩ := ok.slot i0 d0 h2
  refine g_sub ha (re_of (pe_var h1 hv hd hcd) ⟨w0, h3, ?_⟩)
  refine de_run q ok fun u H2 y ρ2 ok2 r2 k2 ⟨i, k, d1, ds, hy, g1, g2, g3, q⟩ => ?_
  subst hy
  obtain ⟨k0, m1, m2, m3⟩ := slot_ix hN h g1
  have e0 : i0 = k0 := by
    obtain ⟨l1, e1⟩ := List.getElem?_eq_some_iff.mp h1
    obtain ⟨l2, e2⟩ := List.getElem?_eq_some_iff.mp m1
    exact (List.getElem_inj hN).mp (e1.trans e2.symm)
  subst e0
  obtain ⟨aa, us, s1, s2, s3, s4⟩ := ok2.put m3 g2
  rw [h3] at s1
  cases s1
  rw [r2.intV]
  rw [setE_eq h1 hN] at q
  have sv := r.step k2.mut
  have hl := s3.len
  obtain ⟨o1, o2⟩ := s4 _ _ (s3.set k sv)
  exact set_lst s2 (by rw [hl]; exact g3) ⟨_, o1, k2.mut.trans o2.mut, q⟩
/-- x.append(e) -/
theorem d_append (hN : X.N.Nodup) (hab : attributeBase (.Name x np) "append" X.env (eval (.Name x np) X.env) = eval (.Name x np) X.env)
    (g2 : (((((backTo pos (starEach [e] X.env)).all fun x => !x.1) && (backToKw pos (keywordEach [] X.env)).all fun x => x.1.isSome) && decide (([e].length + ([] : List Keyword).length + if ([] : List Keyword).isEmpty = true then 0 else 1) < 30)) = true)) (g3 : (apos.endLine == pos.line) = true) (g4 : starEach [e] X.env = (false, eval e X.env) :: starEach [] X.env) (g5 : (backTo pos (starEach [] X.env)).any (·.1) = false)
    (h : (X.N.zip ρ).lookup x = some (some d0)) (hm : d0.mutIs.isSome = true) (hv : Vis X.env.scope x) (hd : (x == ("__debug__" : Str)) = false) (hcd : (x == ("__classdict__" : Str)) = false)
    (q : DE X F e ρ fun y ρ1 => ∃ d1 ds, (X.N.zip ρ1).lookup x = some (some d1) ∧ d1.mutIs = some ds ∧ ds.length < sizeLine ∧ Q .non (setE X.N ρ1 x (some (d1.put (ds ++ [y.fz]))))) : DE X F (.Call (.Attribute (.Name x np) "append" apos) [e] [] pos) ρ Q := fun σ H ok => by
  obtain ⟨i0, h1, h2⟩ := look_en h
  obtain ⟨ds0, hm⟩ := Option.isSome_iff_exists.mp hm
  obtain ⟨aa, us, s1, s2, s3, _⟩ := ok.put h2 hm
  refine e_append hab g2 g3 g4 g5 (re_of (pe_var h1 hv hd hcd) ⟨_, s1, aa, us, rfl, s2, ?_⟩)
  refine a_cons g4 (de_run q ok fun u H2 y ρ2 ok2 r2 k2 ⟨d1, ds, f1, f2, f3, q⟩ => a_nil ?_)
  obtain ⟨k0, m1, m2, m3⟩ := slot_ix hN h f1
  have e0 : i0 = k0 := by
    obtain ⟨l1, e1⟩ := List.getElem?_eq_some_iff.mp h1
    obtain ⟨l2, e2⟩ := List.getElem?_eq_some_iff.mp m1
    exact (List.getElem_inj hN).mp (e1.trans e2.symm)
  subst e0
  obtain ⟨aa', us', t1, t2, t3, t4⟩ := ok2.put m3 f2
  rw [s1] at t1
  cases t1
  rw [setE_eq h1 hN] at q
  obtain ⟨o1, o2⟩ := t4 _ _ (t3.app (.cons r2 .nil))
  exact ⟨u, us', rfl, t2, by rw [t3.len]; exact f3, .non, _, .rep o1 .non, k2.trans o2, q⟩
/-- x.pop(e) -/
theorem d_popAt (hN : X.N.Nodup) (hab : attributeBase (.Name x np) "pop" X.env (eval (.Name x np) X.env) = eval (.Name x np) X.env)
    (g2 : (((((backTo pos (starEach [e] X.env)).all fun x => !x.1) && (backToKw pos (keywordEach [] X.env)).all fun x => x.1.isSome) && decide (([e].length + ([] : List Keyword).length + if ([] : List Keyword).isEmpty = true then 0 else 1) < 30)) = true)) (g3 : (apos.endLine == pos.line) = true) (g4 : starEach [e] X.env = (false, eval e X.env) :: starEach [] X.env) (g5 : (backTo pos (starEach [] X.env)).any (·.1) = false)
    (h : (X.N.zip ρ).lookup x = some (some d0)) (hm : d0.mutIs.isSome = true) (hv : Vis X.env.scope x) (hd : (x == ("__debug__" : Str)) = false) (hcd : (x == ("__classdict__" : Str)) = false)
    (q : DE X F e ρ fun y ρ1 => ∃ (i : Int) (k : Nat) (d1 : D) (ds : List D) (z : D), y = .int i ∧ (X.N.zip ρ1).lookup x = some (some d1) ∧ d1.mutIs = some ds ∧ -(2 ^ 63) ≤ i ∧ i < 2 ^ 63 ∧ seqIndex? i ds.length = some k ∧ ds[k]? = some z ∧ Q z (setE X.N ρ1 x (some (d1.put (ds.eraseIdx k))))) : DE X F (.Call (.Attribute (.Name x np) "pop" apos) [e] [] pos) ρ Q := fun σ H ok => by
  obtain ⟨i0, h1, h2⟩ := look_en h
  obtain ⟨ds0, hm⟩ := Option.isSome_iff_exists.mp hm
  obtain ⟨aa, us, s1, s2, s3, _⟩ := ok.put h2 hm
  refine re_of (pe_bm PySem.F.plainAttrs_list PySem.F.slot_list_pop PySem.F.type_list_pop mt_popAt (re (.Name x np)) (ra [e]) hab g2 g3 g4 g5) ?_
  refine re_of (pe_var h1 hv hd hcd) ⟨_, s1, .inl ⟨rfl, us, SqL.of s2⟩, ?_⟩
  refine a_cons g4 (de_run q ok fun u H2 y ρ2 ok2 r2 k2 ⟨i, k, d1, ds, z, hy, f1, f2, f3, f4, f5, f6, q⟩ => a_nil ?_)
  subst hy
  obtain ⟨k0, m1, m2, m3⟩ := slot_ix hN h f1
  have e0 : i0 = k0 := by
    obtain ⟨l1, e1⟩ := List.getElem?_eq_some_iff.mp h1
    obtain ⟨l2, e2⟩ := List.getElem?_eq_some_iff.mp m1
    exact (List.getElem_inj hN).mp (e1.trans e2.symm)
  subst e0
  obtain ⟨aa', us', t1, t2, t3, t4⟩ := ok2.put m3 f2
  rw [s1] at t1
  cases t1
  rw [setE_eq h1 hN] at q
  have er : ∀ {us : List V} {ds : List D} (k : Nat), F.L (Av F σ ρ2) H2 us ds → F.L (Av F σ ρ2) H2 (us.eraseIdx k) (ds.eraseIdx k) := by
    intro us ds k r
    induction r using RepL.rec (motive_1 := fun _ _ _ => True) generalizing k with
    | nil => exact .nil
    | cons r t _ ih => cases k with
      | zero => exact t
      | succ k => exact .cons r (ih k)
    | _ => trivial
  obtain ⟨o1, o2⟩ := t4 _ _ (er k t3)
  obtain ⟨vz, w1, w2⟩ := t3.get f6
  have hkl : k < us'.length := (List.getElem?_eq_some_iff.mp w1).1
  refine ⟨_, us', i, k, vz, rfl, by rw [r2.intV], t2, f3, f4, by rw [t3.len]; exact f5, w1, z, _, .rep o1 ?_, k2.trans o2, q⟩
  exact Rep.step o2.mut w2
/-! ### calls of defs -/
inductive Bnd (ρ : En) : List Ag → List D → Option Nat → Prop where
  | nil : Bnd ρ [] [] none
  | d {x : D} {as : List Ag} {ds : List D} {l : Option Nat} (t : Bnd ρ as ds l) : Bnd ρ (.d x :: as) (x :: ds) l
  | plain {i : Nat} {d : D} {as : List Ag} {ds : List D} {l : Option Nat} (h : ρ[i]? = some (some d)) (p : d.plain = true) (t : Bnd ρ as ds l) : Bnd ρ (.len i :: as) (d :: ds) l
  | lend {i : Nat} {d : D} {xs : MV} {as : List Ag} {ds : List D} (h : ρ[i]? = some (some d)) (p : d.mv = some xs) (t : Bnd ρ as ds none) : Bnd ρ (.len i :: as) (.bor xs :: ds) (some i)
def putOut (ρ : En) (l : Option Nat) (outs : List MV) : En :=
  match l, outs with
  | none, _ => ρ
  | some i, [xs] => match ρ[i]? with
    | some (some d0) => ρ.set i (some (d0.putM xs))
    | _ => ρ
  | some i, _ => ρ.set i none
theorem isM_of {xs : MV} {k : Nat} (h : ρ[k]? = some (some d0)) (p : d0.mv = some xs) : IsM ρ k := by
  cases d0 with
  | own ys => exact ⟨ys, .inl h⟩
  | bor ys => exact ⟨ys, .inr h⟩
  | _ => cases p
theorem Bnd.args (ok : Ok F H σ ρ) : ∀ {vs : List V} {as : List Ag} {ds : List D} {l : Option Nat}, AgsP F σ ρ H vs as → Bnd ρ as ds l →
    ∃ ba, ArgsR F.K F.w F.cl (Av F σ ρ) H ba vs ds ∧ (l = none → ba = none) ∧ (∀ i, l = some i → ∃ a d0 xs, ba = some a ∧ ρ[i]? = some (some d0) ∧ d0.mv = some xs ∧ σ[i]? = some (some (.ref a)))
  | _, _, _, _, .nil, .nil => ⟨none, .nil, fun _ => rfl, fun i h => by cases h⟩
  | _, _, _, _, .d r t, .d b => by
    obtain ⟨ba, h1, h2, h3⟩ := Bnd.args ok t b
    exact ⟨ba, .rep r h1, h2, h3⟩
  | _, _, _, _, .len e t, .plain h p b => by
    obtain ⟨ba, h1, h2, h3⟩ := Bnd.args ok t b
    obtain ⟨v, e1, e2⟩ := ok.slot _ _ h
    rw [e] at e1
    cases e1
    exact ⟨ba, .rep (e2.plain p) h1, h2, h3⟩
  | _, _, _, _, .len e t, .lend h p b => by
    obtain ⟨ba, h1, h2, h3⟩ := Bnd.args ok t b
    rw [h2 rfl] at h1
    obtain ⟨aa, us, s1, s2, s3, s4⟩ := ok.putV h p
    rw [e] at s1
    cases s1
    refine ⟨some aa, .bor (.inr ⟨_, isM_of h p, e⟩) s2 s3 h1, (by intro h; cases h), fun i hi => ?_⟩
    cases hi
    exact ⟨aa, _, _, rfl, h, p, e⟩
/-- behind a call, where nothing was lent or a slot's list -/
theorem ret_res {ba : Option Addr} {l : Option Nat} {outs : List MV} {t : Option Addr} (ok : Ok F H σ ρ) (hn : l = none → ba = none) (hs : ∀ i, l = some i → ∃ a d0 xs, ba = some a ∧ ρ[i]? = some (some d0) ∧ d0.mv = some xs ∧ σ[i]? = some (some (.ref a)))
    (R : Ret F.K F.w F.cl (Av F σ ρ) H ba outs v H' d t) : Res F H' σ v d (putOut ρ l outs) ∧ Kp (Mut σ ρ) H (Mut σ (putOut ρ l outs)) H' := by
  -- which slots may change behind
  have hM : ∀ j, IsM (putOut ρ l outs) j → IsM ρ j := by
    intro j m
    cases l with
    | none => exact m
    | some i =>
      obtain ⟨a, d0, xs, _, h1, h2, _⟩ := hs i rfl
      have m0 : IsM ρ i := by
        cases d0 with
        | own ys => exact ⟨ys, .inl h1⟩
        | bor ys => exact ⟨ys, .inr h1⟩
        | _ => cases h2
      have hset : ∀ d', IsM (ρ.set i d') j → IsM ρ j := by
        intro d' m
        rcases isM_set m with ⟨rfl, _⟩ | ⟨_, m⟩
        · exact m0
        · exact m
      unfold putOut at m
      match outs, m with
      | [], m => exact hset _ m
      | [ys], m => simp only [h1] at m; exact hset _ m
      | _ :: _ :: _, m => exact hset _ m
  have hMut : ∀ b, Mut σ (putOut ρ l outs) b → Mut σ ρ b := fun b ⟨j, m, e⟩ => ⟨j, hM j m, e⟩
  have hba : ∀ b, ba = some b → Mut σ ρ b := by
    intro b hb
    cases l with
    | none => rw [hn rfl] at hb; cases hb
    | some i =>
      obtain ⟨a, d0, xs, ha, h1, h2, h3⟩ := hs i rfl
      rw [ha] at hb
      cases hb
      refine ⟨i, ?_, h3⟩
      cases d0 with
      | own ys => exact ⟨ys, .inl h1⟩
      | bor ys => exact ⟨ys, .inr h1⟩
      | _ => cases h2
  have kp : Kp (Mut σ ρ) H (Mut σ (putOut ρ l outs)) H' := ⟨fun b o h n => R.keep b o h fun e => n (hba b e), fun b o h n m => n (hMut b m)⟩
  refine ⟨?_, kp⟩
  have tn : ∀ a, t = some a → H a = none := fun a h => by obtain ⟨_, _, _, _, h, _⟩ := R.new a h; exact h
  -- the frame behind, with the new list not to be met
  have key : ∀ (F' : Fx), Like F' F → F'.held = F.held → (∀ b, F'.Out b ↔ (F.Out b ∨ t = some b)) → (∀ b, t = some b → Ch H' b) → Ok F' H' σ (putOut ρ l outs) := by
    intro F' L hh hO ht
    have kpF : Kp (Av F σ ρ) H (Av F' σ (putOut ρ l outs)) H' := ⟨fun b o h n => kp.keep b o h fun m => n (.inr m), fun b o h n q => by
      rcases q with q | q
      · rcases (hO b).mp q with q | q
        · exact n (.inl q)
        · rw [tn b q] at h; cases h
      · exact n (.inr (hMut b q))⟩
    have wk : Kp (orT (Av F σ ρ) t) H' (Av F' σ (putOut ρ l outs)) H' := .weak fun b q => by
      rcases q with q | q
      · rcases (hO b).mp q with q | q
        · exact .inl (.inl q)
        · exact .inr q
      · exact .inl (.inr (hMut b q))
    -- an unchanged slot
    have same : ∀ j x, ρ[j]? = some (some x) → (∀ i, l = some i → j ≠ i) → ∃ v, σ[j]? = some (some v) ∧ Slot F' (Av F' σ (putOut ρ l outs)) H' v x := by
      intro j x hx hj
      obtain ⟨w, e1, e2⟩ := ok.slot j x hx
      have nb : ∀ b, w = .ref b → ((∃ ds, x = .own ds) ∨ ∃ ds, x = .bor ds) → ba ≠ some b := by
        intro b hw m hb
        subst hw
        cases l with
        | none => rw [hn rfl] at hb; cases hb
        | some i =>
          obtain ⟨a, d0, xs, ha, h1, h2, h3⟩ := hs i rfl
          rw [ha] at hb
          cases hb
          refine ok.dist j i b (hj i rfl) ?_ ?_ e1 h3
          · rcases m with ⟨ds, rfl⟩ | ⟨ds, rfl⟩
            · exact ⟨ds, .inl hx⟩
            · exact ⟨ds, .inr hx⟩
          · cases d0 with
            | own ys => exact ⟨ys, .inl h1⟩
            | bor ys => exact ⟨ys, .inr h1⟩
            | _ => cases h2
      refine ⟨w, e1, ?_⟩
      cases e2 with
      | own h n o r => exact .own (R.keep _ _ h (nb _ rfl (.inl ⟨_, rfl⟩))) (by rw [L.H0]; exact n) (fun q => by
          rcases (hO _).mp q with q | q
          · exact o q
          · rw [tn _ q] at h; cases h) (L.M (MRep.step r kpF))
      | bor h n r => exact .bor (R.keep _ _ h (nb _ rfl (.inr ⟨_, rfl⟩))) (by rw [L.B]; exact n) (L.M (MRep.step r kpF))
      | rep r => exact .rep (L.R (Rep.step kpF r))
    refine { len := ?_, slot := ?_, dist := fun i j b n m1 m2 e1 e2 => ok.dist i j b n (hM i m1) (hM j m2) e1 e2, keep := ?_, out := ?_, bo := ?_, held := ?_ }
    · unfold putOut
      split
      · exact ok.len
      · split
        · rw [List.length_set]; exact ok.len
        · exact ok.len
      · rw [List.length_set]; exact ok.len
    · intro j x hx
      cases l with
      | none => exact same j x hx (fun i h => by cases h)
      | some i =>
        obtain ⟨a, d0, xs, ha, h1, h2, h3⟩ := hs i rfl
        have hset : ∀ d', ((ρ.set i d')[j]? = some (some x)) → (j ≠ i ∧ ρ[j]? = some (some x)) ∨ (j = i ∧ d' = some x) := by
          intro d' h
          by_cases e : i = j
          · subst e
            rw [List.getElem?_set] at h
            simp at h
            exact .inr ⟨rfl, h.2⟩
          · rw [List.getElem?_set_ne e] at h
            exact .inl ⟨fun q => e q.symm, h⟩
        match outs, R.out a, hx with
        | [], _, hx =>
          rcases hset _ hx with ⟨n, h⟩ | ⟨_, h⟩
          · exact same j x h fun k hk => by cases hk; exact n
          · cases h
        | _ :: _ :: _, _, hx =>
          rcases hset _ hx with ⟨n, h⟩ | ⟨_, h⟩
          · exact same j x h fun k hk => by cases hk; exact n
          · cases h
        | [ys], ro, hx =>
          simp only [putOut, h1] at hx
          rcases hset _ hx with ⟨n, h⟩ | ⟨e, h⟩
          · exact same j x h fun k hk => by cases hk; exact n
          · subst e
            cases h
            obtain ⟨us, u1, u2⟩ := ro ys ha rfl
            obtain ⟨w, e1, e2⟩ := ok.slot j d0 h1
            rw [h3] at e1
            cases e1
            refine ⟨_, h3, ?_⟩
            cases d0 with
            | own zs =>
              cases e2 with
              | own h n o r => exact .own u1 (by rw [L.H0]; exact n) (fun q => by
                  rcases (hO _).mp q with q | q
                  · exact o q
                  · rw [tn _ q] at h; cases h) (L.M (MRep.step u2 (by simpa only [putOut, h1] using wk)))
              | rep r => exact r.noOwn.elim
            | bor zs =>
              cases e2 with
              | bor h n r => exact .bor u1 (by rw [L.B]; exact n) (L.M (MRep.step u2 (by simpa only [putOut, h1] using wk)))
              | rep r => exact r.noBor.elim
            | _ => cases h2
    · intro b o h n
      rw [L.H0] at h
      rw [L.B] at n
      have hb := ok.keep b o h n
      refine R.keep b o hb fun e => ?_
      obtain ⟨i, m, ei⟩ := hba b e
      obtain ⟨ds, hd⟩ := m
      rcases hd with hd | hd
      · obtain ⟨w, e1, e2⟩ := ok.slot i _ hd
        rw [ei] at e1
        cases e1
        cases e2 with
        | own _ n0 _ _ => rw [n0] at h; cases h
        | rep r => exact r.noOwn
      · obtain ⟨w, e1, e2⟩ := ok.slot i _ hd
        rw [ei] at e1
        cases e1
        cases e2 with
        | bor _ b0 _ => exact n b0
        | rep r => exact r.noBor
    · intro b q
      rcases (hO b).mp q with q | q
      · exact R.alloc b (.inl q)
      · exact ht b q
    · intro b q
      rw [L.B] at q
      exact (hO b).mpr (.inl (ok.bo b q))
    · intro q hq
      rw [hh] at hq
      have kq : Kp (Av F σ ρ) H (Av F' σ (putOut ρ l outs)) H' := kpF
      exact q.st _ _ _ _ (ok.held q hq) kq
  cases ht : t with
  | none =>
    subst ht
    have okF := key F ⟨rfl, rfl, rfl, rfl, rfl⟩ rfl (fun b => ⟨fun h => .inl h, fun h => by rcases h with h | h; exact h; cases h⟩) (fun b h => by cases h)
    exact .rep okF (Rep.step (.weak fun b q => by
      rcases q with q | q
      · exact .inl q
      · exact .inr (hMut b q)) (R.res rfl))
  | some a =>
    subst ht
    obtain ⟨us, ds, rfl, rfl, ha, hl, r⟩ := R.new a rfl
    have okF := key (F.out a) .out rfl (fun b => ⟨fun h => by rcases h with h | h; exact .inl h; subst h; exact .inr rfl, fun h => by rcases h with h | h; exact .inl h; cases h; exact .inr rfl⟩) (fun b h => by cases h; exact ⟨_, hl, r.chg⟩)
    refine .own hl (ok.n0 ha) (fun q => ok.navn ha (.inl q)) (fun q => ok.navn ha (.inl (ok.bo a q))) (fun q => ok.navn ha (.inr (hMut a q))) okF (MRep.step r (.weak fun b q => ?_))
    rcases q with (q | q) | q
    · exact .inl (.inl q)
    · subst q; exact .inr rfl
    · exact .inl (.inr (hMut b q))
theorem d_call {sp : DSp} {k : Nat} {ps : List Str} {fp : Pos} [f : Fit X F] (C : Callable X.prog X.w X.K X.mg X.base x k ps (toSp X.K X.w F.cl sp)) (hr : Room k X.A) (hg : Gl X x) (hd : (x == ("__debug__" : Str)) = false) (he : starEach (e :: es) X.env = (false, eval e X.env) :: starEach es X.env) (hpl : (backTo pos (starEach es X.env)).any (·.1) = false)
    (q : DA X F (e :: es) ρ fun as ρ1 => ∃ ds l, Bnd ρ1 as ds l ∧ sp ds fun d outs => Q d (putOut ρ1 l outs)) : DE X F (.Call (.Name x fp) (e :: es) [] pos) ρ Q := fun σ H ok => by
  refine e_call C hr hg hd he hpl (ra_mono (q σ H ok) fun vs H1 ⟨as, ρ1, ok1, ps, k1, ds, l, b, q⟩ => ?_)
  obtain ⟨ba, a1, a2, a3⟩ := b.args ok1 ps
  refine ⟨ds, Av F σ ρ1, ba, _, fun b q => ok1.av q, by rw [f.K, f.w] at a1; exact a1, q, fun d outs hq v H' t R => ?_⟩
  rw [← f.K, ← f.w] at R
  obtain ⟨r1, r2⟩ := ret_res ok1 a2 a3 R
  exact ⟨d, _, r1, k1.trans r2, hq⟩
end
end Dx

end
section -- Di
set_option maxRecDepth 100000
set_option maxHeartbeats 4000000
/-! A def by its body; loops; comprehensions. -/
namespace Dx
open PySem PySem.Spec L2 Sx
open PyProof.Rows hiding St

section
variable {P : Program} {w : World} {K : PySem.W.Frag} {mg : Str → Option Value} {base : Heap}
instance {CX : CXT} {N : List Str} {qual : Str} {sc : Scope} {f : Addr} {cd : Value} {A : Around} {outer : List Env} {s : Shared} {H0 H : Hp} {E : XK} {cl : Nm} {O : Addr → Prop} {ba : Option Addr} : Fit (cxOf CX P w K mg base N qual sc f cd A outer s H0 E).nox (fx0 K w cl H O ba) := ⟨rfl, rfl⟩
theorem dfn {x qual : Str} {st : Stmt} {f : Addr} {fd : FuncData} {N ps : List Str} {k : Nat} {sp : DSp} {cl : Nm} (F : Fun K x qual st f fd) (S : FnScope N ps (defScope st)) (len : ∀ ds Q, sp ds Q → ds.length = ps.length)
    (body : ∀ (cdv : Value) (A : Around) (outer : List Env) (s : Shared) (H : Hp) (E : XK) (ds : List D) (O : Addr → Prop) (ba : Option Addr) (Q' : D → List MV → Prop), Room k (A.deeper (envOfC qual (defScope st) s.heap.objs.size f cdv)) → sp ds Q' →
      DSs (cxOf CX0 P w K mg base N qual (defScope st) f cdv A outer s H E).nox (fx0 K w cl H O ba) (defBody st) ⟨fun ρ => Q' .non (outs ds ρ), fun d ρ => Q' d (outs ds ρ), fun _ => False, fun _ => False⟩ (startE N ds)) : FnOk P w K mg base CX0 (k + 1) f fd ps (toSp K w cl sp) := by
  refine F.ok S (fun vs H Q E ⟨ds, O, ba, K', ho, r, h, _⟩ => by rw [r.len]; exact len ds _ h) (fun cdv A outer s H vs Q E hr ⟨ds, O, ba, K', ho, r, h, hk⟩ => ⟨_, rss _, ?_⟩)
  refine rsx_mono (body cdv A outer s H E ds O ba K' hr h _ _ (ok_start ho r)) (fun σ H' ⟨ρ, ok, q⟩ => ?_) (fun v H' ⟨σ, d, ρ, res, q⟩ => ?_) (fun σ H' ⟨ρ, _, q⟩ => q.elim) (fun σ H' ⟨ρ, _, q⟩ => q.elim)
  · obtain ⟨t, R⟩ := ret_of (ds := ds) (Res.rep ok .non)
    exact hk _ _ q _ _ _ R
  · obtain ⟨t, R⟩ := ret_of (ds := ds) res
    exact hk _ _ q _ _ _ R
end
section
variable {X : Cx} {F : Fx} {e a b c l o tg : Expr} {es : List Expr} {st : Stmt} {sts rest A B body : List Stmt} {ρ ρ' ρ1 : En} {σ : St} {H H' : Hp} {pos p pos' apos np : Pos} {x : Str} {d d0 : D} {v u : V} {i j : Int} {E : DEnds} {Q : DQ} {QB : Bool → En → Prop}
theorem Res.del {hs : List HF} (h : Res (F.also hs) H σ v d ρ) : Res F H σ v d ρ := by
  cases h with
  | rep ok r => exact .rep ok.delHold r
  | own ha h0 no nb nm ok r =>
    refine .own ha h0 no nb nm ?_ r
    exact ok.move ⟨rfl, rfl, rfl, rfl, rfl⟩ (fun _ _ e => e) (fun b u e q => q) ok.out ok.bo (fun q hq => ok.held q (List.mem_append_right _ hq))
def ofRep (K : PySem.W.Frag) (w : World) (cl : Nm) (v : V) (d : D) : HF := ⟨fun O H => Rep K w cl O H v d, fun _ _ _ _ r k => r.step k⟩
def ofReps (K : PySem.W.Frag) (w : World) (cl : Nm) (v : List V) (d : List D) : HF := ⟨fun O H => RepL K w cl O H v d, fun _ _ _ _ r k => r.step k⟩
def ofAt (a : Addr) (o : HO) : HF := ⟨fun O H => H a = some o ∧ ¬ O a, fun _ _ _ _ r k => ⟨k.keep _ _ r.1 r.2, k.none _ _ r.1 r.2⟩⟩
def ofT (K : PySem.W.Frag) (a : Addr) (xs : List V) : HF := ⟨fun O H => (Rd H a (.tup xs) ∧ ¬ O a) ∨ ∀ H, SqT K H a xs, fun _ _ _ _ r k => by
  rcases r with ⟨h, n⟩ | h
  · exact .inl (k.rd h n)
  · exact .inr h⟩
def ofL (K : PySem.W.Frag) (a : Addr) (xs : List V) : HF := ⟨fun O H => (Rd H a (.lst xs) ∧ ¬ O a) ∨ ∀ H, SqL K H a xs, fun _ _ _ _ r k => by
  rcases r with ⟨h, n⟩ | h
  · exact .inl (k.rd h n)
  · exact .inr h⟩
theorem ofL.sq {K : PySem.W.Frag} {a : Addr} {xs : List V} {O : Addr → Prop} (h : (ofL K a xs).P O H) : SqL K H a xs := by
  rcases h with ⟨h, _⟩ | h
  · exact .inl h
  · exact h H
/-- what a loop over these asks -/
def DFor (X : Cx) (F : Fx) (tg : Expr) (body : List Stmt) (E : DEnds) : List D → En → Prop
  | [], ρ => E.nx ρ
  | x :: xs, ρ => DG X F tg x ρ fun ρ1 => DSs X F body ⟨DFor X F tg body E xs, E.rt, E.nx, DFor X F tg body E xs⟩ ρ1
theorem dfor_run {hs : List HF} (hx : F.R (Av (F.also hs) σ ρ) H v d) {xs : List D} (q : DFor X (F.also hs) tg body E (d :: xs) ρ) (ok : Ok (F.also hs) H σ ρ) :
    RG X tg v σ H fun σ2 H2 => RSs X body ⟨fun σ H => ∃ ρ, Ok (F.also hs) H σ ρ ∧ DFor X (F.also hs) tg body E xs ρ, upR F E.rt, up F E.nx, fun σ H => ∃ ρ, Ok (F.also hs) H σ ρ ∧ DFor X (F.also hs) tg body E xs ρ⟩ σ2 H2 :=
  rg_mono (q σ H v ok hx) fun σ2 H2 ⟨ρ1, ok1, _, q1⟩ => rsx_mono (q1 σ2 H2 ok1) (fun σ H h => h) (fun v H ⟨σ, d, ρ, r, q⟩ => ⟨σ, d, ρ, r.del, q⟩) (fun σ H ⟨ρ, ok, q⟩ => ⟨ρ, ok.delHold, q⟩) (fun σ H h => h)
theorem drop_get {xs : List D} {i : Nat} {d : D} (h : xs[i]? = some d) : xs.drop i = d :: xs.drop (i + 1) := by
  obtain ⟨hi, e⟩ := List.getElem?_eq_some_iff.mp h
  rw [List.drop_eq_getElem_cons hi, e]
/-- the list behind a value with items -/
theorem items_hold {ds : List D} (r : F.R (Av F σ ρ) H v d) (hi : d.items = some ds) : ∃ a xs, v = .ref a ∧ SqL F.K H a xs ∧ (∀ p ∈ [ofL F.K a xs, ofReps F.K F.w F.cl xs ds], p.P (Av F σ ρ) H) := by
  have two : ∀ {a : Addr} {xs : List V}, (ofL F.K a xs).P (Av F σ ρ) H → F.L (Av F σ ρ) H xs ds → ∀ p ∈ [ofL F.K a xs, ofReps F.K F.w F.cl xs ds], p.P (Av F σ ρ) H := by
    intro a xs h1 h2 p hp
    rcases List.mem_cons.mp hp with rfl | hp
    · exact h1
    · rw [List.mem_singleton] at hp; subst hp; exact h2
  cases r with
  | lst h n r =>
    cases hi
    exact ⟨_, _, rfl, .inl (.inl h), two (.inl ⟨.inl h, n⟩) r⟩
  | scr h n r =>
    cases hi
    exact ⟨_, _, rfl, .inl h, two (.inl ⟨h, n⟩) r⟩
  | scrK h r =>
    cases hi
    exact ⟨_, _, rfl, h H, two (.inr h) r⟩
  | _ => cases hi
theorem tup_hold {ds : List D} (r : F.R (Av F σ ρ) H v (.tup ds)) : ∃ a xs, v = .ref a ∧ SqT F.K H a xs ∧ (∀ p ∈ [ofT F.K a xs, ofReps F.K F.w F.cl xs ds], p.P (Av F σ ρ) H) := by
  cases r with
  | tup h n r =>
    exact ⟨_, _, rfl, .inl h, fun p hp => by
      rcases List.mem_cons.mp hp with rfl | hp
      · exact .inl ⟨h, n⟩
      · rw [List.mem_singleton] at hp; subst hp; exact r⟩
  | tupK h r =>
    exact ⟨_, _, rfl, h H, fun p hp => by
      rcases List.mem_cons.mp hp with rfl | hp
      · exact .inr h
      · rw [List.mem_singleton] at hp; subst hp; exact r⟩
theorem ofT.sq {K : PySem.W.Frag} {a : Addr} {xs : List V} {O : Addr → Prop} (h : (ofT K a xs).P O H) : SqT K H a xs := by
  rcases h with ⟨h, _⟩ | h
  · exact .inl h
  · exact h H
/-- a range by ones -/
def rng (lo : Int) (n : Nat) : List D := (List.range n).map fun k : Nat => D.int (lo + k)
theorem rng_get {lo : Int} {n k : Nat} (h : k < n) : (rng lo n)[k]? = some (.int (lo + k)) := by
  unfold rng
  rw [List.getElem?_map, List.getElem?_range h]
  rfl
theorem rng_len {lo : Int} {n : Nat} : (rng lo n).length = n := by unfold rng; simp
/-- a loop by an invariant -/
theorem dfor_inv {xs : List D} (I : Nat → En → Prop) (h0 : I 0 ρ) (hs : ∀ k d ρ, xs[k]? = some d → I k ρ → DG X F tg d ρ fun ρ1 => DSs X F body ⟨I (k + 1), E.rt, E.nx, I (k + 1)⟩ ρ1) (hd : ∀ ρ, I xs.length ρ → E.nx ρ) : DFor X F tg body E xs ρ := by
  have key : ∀ (n k : Nat) (ρ : En), n + k = xs.length → I k ρ → DFor X F tg body E (xs.drop k) ρ := by
    intro n
    induction n with
    | zero =>
      intro k ρ e h
      rw [List.drop_eq_nil_of_le (by omega)]
      rw [show k = xs.length by omega] at h
      exact hd ρ h
    | succ n ih =>
      intro k ρ e h
      have hk : k < xs.length := by omega
      have hg : xs[k]? = some xs[k] := List.getElem?_eq_getElem hk
      rw [drop_get hg]
      intro σ H v ok r
      refine rg_mono (hs k _ ρ hg h σ H v ok r) fun σ2 H2 ⟨ρ1, ok1, k1, q1⟩ => ⟨ρ1, ok1, k1, fun σ3 H3 ok3 => rsx_mono (q1 σ3 H3 ok3) (fun σ H ⟨ρ, ok, q⟩ => ⟨ρ, ok, ih (k + 1) ρ (by omega) q⟩) (fun _ _ h => h) (fun _ _ h => h) (fun σ H ⟨ρ, ok, q⟩ => ⟨ρ, ok, ih (k + 1) ρ (by omega) q⟩)⟩
  have := key xs.length 0 ρ (by omega) h0
  rwa [List.drop_zero] at this
/-- while -/
theorem ds_while {W : En → Prop} (μ : En → Nat) (hp : PassesOwn (model X.prog X.w) X.A X.env X.xe) (h0 : W ρ)
    (hs : ∀ ρ, W ρ → DT X F c ρ fun b ρ1 => if b = true then DSs X F body ⟨fun ρ' => W ρ' ∧ μ ρ' < μ ρ, E.rt, E.nx, fun ρ' => W ρ' ∧ μ ρ' < μ ρ⟩ ρ1 else E.nx ρ1) : DS X F (.While c body [] pos) E ρ := fun σ H ok => by
  refine rs_of (ps_while hp (rt c) (rss body)) ?_
  refine ⟨fun m σ H => ∃ ρ, m = μ ρ ∧ Ok F H σ ρ ∧ W ρ, ⟨_, ρ, rfl, ok, h0⟩, ?_⟩
  rintro m σ H ⟨ρ, rfl, ok, hw⟩
  intro pins s I
  refine thn (dt_run (R := fun b H1 => if b = true then RSs X body ⟨fun σ' H' => ∃ m', m' < μ ρ ∧ ∃ ρ, m' = μ ρ ∧ Ok F H' σ' ρ ∧ W ρ, upR F E.rt, up F E.nx, fun σ' H' => ∃ m', m' < μ ρ ∧ ∃ ρ, m' = μ ρ ∧ Ok F H' σ' ρ ∧ W ρ⟩ σ H1 else up F E.nx σ H1) (hs ρ hw) ok (fun b H1 ρ1 ok1 k1 q1 => ?_) pins s I) fun b s' ⟨H1, I1, q⟩ => ⟨H1, I1, ?_⟩
  · cases b with
    | true => exact iteT (rsx_mono ((show DSs X F body _ ρ1 from q1) σ H1 ok1) (fun σ' H' ⟨ρ', ok', q', l⟩ => ⟨_, l, ρ', rfl, ok', q'⟩) (fun _ _ h => h) (fun _ _ h => h) (fun σ' H' ⟨ρ', ok', q', l⟩ => ⟨_, l, ρ', rfl, ok', q'⟩))
    | false => exact iteF ⟨ρ1, ok1, q1⟩
  · cases b with
    | true => exact ⟨_, fun σ' H' ⟨m', l, h⟩ => ⟨m', l, h⟩, q⟩
    | false => exact q
end
end Dx

end
section -- Dj
set_option maxRecDepth 100000
set_option maxHeartbeats 4000000
/-! What a for or a comprehension walks. -/
namespace Dx
open PySem PySem.Spec L2 Sx
open PyProof.Rows hiding St

def DIt (hs : List HF) (F : Fx) (J : It) (ds : List D) : Prop := ∀ (F' : Fx) (H : Hp) (σ : St) (ρ : En) (m : Nat), Like F' F → (∀ p ∈ hs, p ∈ F'.held) → Ok F' H σ ρ →
  (m = ds.length → J.stop m H) ∧ ∀ d, ds[m]? = some d → J.go m H ∧ ∀ x H', J.yld m H x H' → (∀ b o, H b = some o → H' b = some o) ∧ F'.R (Av F' σ ρ) H' x d
def DI (X : Cx) (F : Fx) (tg iter : Expr) (ρ : En) (K : List D → En → Prop) : Prop :=
  ∃ wi, PI X tg iter wi ∧ ∀ σ H (R : It → Hp → Prop), Ok F H σ ρ → (∀ J H1 ρ1 hs ds, Ok (F.also hs) H1 σ ρ1 → Kp (Mut σ ρ) H (Mut σ ρ1) H1 → DIt hs F J ds → K ds ρ1 → R J H1) → wi σ H R
section
variable {X : Cx} {F : Fx} {e a b c l o tg iter elt : Expr} {es ifs : List Expr} {st : Stmt} {body : List Stmt} {ρ ρ' ρ1 : En} {σ : St} {H H' : Hp} {pos p pos' apos np fp p' : Pos} {x : Str} {d d0 : D} {v u : V} {i j : Int} {E : DEnds} {Q : DQ} {QB : Bool → En → Prop} {K : List D → En → Prop}
theorem ds_for (hf : ∀ x, foldedSetIterable l X.env x = pure x) (hp : PassesOwn (model X.prog X.w) X.A X.env X.xe) (hc : X.calm = true) (q : DI X F tg l ρ fun ds ρ1 => ∀ hs : List HF, DFor X (F.also hs) tg body E ds ρ1) : DS X F (.For tg l body [] pos) E ρ := fun σ H ok => by
  obtain ⟨wi, hi, q⟩ := q
  refine rs_of (ps_for hp hc hi (rg tg) (rss body) hf) ?_
  show wi σ H fun J H1 => ForJ X tg body (up F E.nx) (upR F E.rt) σ J H1
  refine q σ H _ ok fun J H1 ρ1 hs ds ok1 k1 it q => ?_
  refine ⟨fun i m σ H => m = ds.length - i ∧ i ≤ ds.length ∧ ∃ ρ, Ok (F.also hs) H σ ρ ∧ DFor X (F.also hs) tg body E (ds.drop i) ρ, ⟨_, rfl, Nat.zero_le _, ρ1, ok1, q hs⟩, ?_⟩
  rintro i m σ H ⟨rfl, hi, ρ, ok, q⟩
  obtain ⟨j1, j2⟩ := it (F.also hs) H σ ρ i .also (fun p hp => List.mem_append_left _ hp) ok
  by_cases hlt : i < ds.length
  · have hg : ds[i]? = some ds[i] := List.getElem?_eq_getElem hlt
    obtain ⟨g, y⟩ := j2 _ hg
    refine .inr ⟨g, fun σ H => ∃ ρ, Ok (F.also hs) H σ ρ ∧ DFor X (F.also hs) tg body E (ds.drop (i + 1)) ρ, fun σ' H' h => ⟨_, by omega, rfl, hlt, h⟩, fun x H' hy => ?_⟩
    obtain ⟨y1, y2⟩ := y x H' hy
    rw [drop_get hg] at q
    exact dfor_run (F := F) (hs := hs) y2 q (ok.grow y1)
  · have ei : i = ds.length := by omega
    rw [List.drop_eq_nil_of_le (by omega)] at q
    exact .inl ⟨j1 ei, ρ, ok.delHold, q⟩
/-! ### lists, tuples, ranges, enumerate, zip -/
theorem dit_list {a : Addr} {xs : List V} {ds : List D} (hlen : xs.length = ds.length) : DIt [ofL F.K a xs, ofReps F.K F.w F.cl xs ds] F (Itl F.K a) ds := fun F' H σ ρ m L hh ok => by
  have h1 : SqL F.K H a xs := ofL.sq (ok.held _ (hh _ (List.mem_cons_self ..)))
  have h2 : RepL F.K F.w F.cl (Av F' σ ρ) H xs ds := ok.held _ (hh _ (List.mem_cons_of_mem _ (List.mem_cons_self ..)))
  refine ⟨fun e => ⟨xs, h1, by omega⟩, fun d hd => ?_⟩
  obtain ⟨v, e1, e2⟩ := h2.get hd
  refine ⟨⟨xs, v, h1, e1⟩, fun x H' ⟨e, f⟩ => ?_⟩
  subst e
  have e3 := f xs h1
  rw [e1] at e3
  cases e3
  exact ⟨fun _ _ h => h, L.R e2⟩
theorem dit_tup {a : Addr} {xs : List V} {ds : List D} (hlen : xs.length = ds.length) : DIt [ofT F.K a xs, ofReps F.K F.w F.cl xs ds] F (Itt F.K a) ds := fun F' H σ ρ m L hh ok => by
  have h1 : SqT F.K H a xs := ofT.sq (ok.held _ (hh _ (List.mem_cons_self ..)))
  have h2 : RepL F.K F.w F.cl (Av F' σ ρ) H xs ds := ok.held _ (hh _ (List.mem_cons_of_mem _ (List.mem_cons_self ..)))
  refine ⟨fun e => ⟨xs, h1, by omega⟩, fun d hd => ?_⟩
  obtain ⟨v, e1, e2⟩ := h2.get hd
  refine ⟨⟨xs, v, h1, e1⟩, fun x H' ⟨e, f⟩ => ?_⟩
  subst e
  have e3 := f xs h1
  rw [e1] at e3
  cases e3
  exact ⟨fun _ _ h => h, L.R e2⟩
theorem dit_rng {lo : Int} {n : Nat} : DIt [] F (Itr lo n) (rng lo n) := fun F' H σ ρ m L hh ok => by
  refine ⟨fun e => by rw [rng_len] at e; exact Nat.le_of_eq e.symm, fun d hd => ?_⟩
  have hm : m < n := by
    have := (List.getElem?_eq_some_iff.mp hd).1
    rwa [rng_len] at this
  rw [rng_get hm] at hd
  cases hd
  exact ⟨hm, fun x H' ⟨e, f⟩ => by subst e; subst f; exact ⟨fun _ _ h => h, .int _⟩⟩
def enumD (ds : List D) : List D := ds.zipIdx.map fun p => D.tup [.int (p.2 : Nat), p.1]
theorem enumD_len {ds : List D} : (enumD ds).length = ds.length := by unfold enumD; simp
theorem enumD_get {ds : List D} {m : Nat} {d : D} (h : (enumD ds)[m]? = some d) : ∃ x, ds[m]? = some x ∧ d = .tup [.int (m : Nat), x] := by
  unfold enumD at h
  rw [List.getElem?_map, List.getElem?_zipIdx] at h
  cases e : ds[m]? with
  | none => rw [e] at h; simp at h
  | some x => rw [e] at h; simp at h; exact ⟨x, rfl, h.symm⟩
theorem dit_enumT {a : Addr} {xs : List V} {ds : List D} (hlen : xs.length = ds.length) : DIt [ofT F.K a xs, ofReps F.K F.w F.cl xs ds] F (IteT F.K a) (enumD ds) := fun F' H σ ρ m L hh ok => by
  have h1 : SqT F.K H a xs := ofT.sq (ok.held _ (hh _ (List.mem_cons_self ..)))
  have h2 : RepL F.K F.w F.cl (Av F' σ ρ) H xs ds := ok.held _ (hh _ (List.mem_cons_of_mem _ (List.mem_cons_self ..)))
  refine ⟨fun e => ⟨xs, h1, by rw [enumD_len] at e; omega⟩, fun d hd => ?_⟩
  obtain ⟨y, hy, rfl⟩ := enumD_get hd
  obtain ⟨v, e1, e2⟩ := h2.get hy
  refine ⟨⟨xs, v, h1, e1⟩, fun x H' ⟨T, z, hx, hT, hH, f⟩ => ?_⟩
  subst hx
  subst hH
  have e3 := f xs h1
  rw [e1] at e3
  cases e3
  exact ⟨grow_upd hT, .tup (.inl upd_same) (ok.navn hT) (.cons (.int _) (.cons (L.R (Rep.step (.new (grow_upd hT)) e2)) .nil))⟩
theorem di_L [f : Fit X F] (q : DE X F l ρ fun d ρ1 => ∃ ds, d.fz.items = some ds ∧ K ds ρ1) : DI X F tg l ρ K := by
  refine ⟨_, pi_list (re l), fun σ H R ok k => ?_⟩
  refine de_run q ok fun v H1 d ρ1 ok1 r1 k1 ⟨ds, hi, q⟩ => ?_
  obtain ⟨a, xs, rfl, hl, hh⟩ := items_hold r1 hi
  have hlen : xs.length = ds.length := RepL.len (hh (ofReps F.K F.w F.cl xs ds) (List.mem_cons_of_mem _ (List.mem_cons_self ..)))
  exact ⟨a, rfl, ⟨xs, by rw [← f.K]; exact hl⟩, k _ _ ρ1 _ ds (ok1.addHold hh) k1 (by rw [← f.K]; exact dit_list hlen) q⟩
theorem di_T [f : Fit X F] (q : DE X F l ρ fun d ρ1 => ∃ ds, d = .tup ds ∧ K ds ρ1) : DI X F tg l ρ K := by
  refine ⟨_, pi_tup (re l), fun σ H R ok k => ?_⟩
  refine de_run q ok fun v H1 d ρ1 ok1 r1 k1 ⟨ds, hi, q⟩ => ?_
  subst hi
  obtain ⟨a, xs, rfl, hl, hh⟩ := tup_hold r1
  have hlen : xs.length = ds.length := RepL.len (hh (ofReps F.K F.w F.cl xs ds) (List.mem_cons_of_mem _ (List.mem_cons_self ..)))
  exact ⟨a, rfl, ⟨xs, by rw [← f.K]; exact hl⟩, k _ _ ρ1 _ ds (ok1.addHold hh) k1 (by rw [← f.K]; exact dit_tup hlen) q⟩
theorem di_R1 (B : Blt X.mg) (hg : Gl X "range") (hs : starEach [a] X.env = [(false, eval a X.env)]) (q : DE X F a ρ fun d ρ1 => ∃ j : Int, d = .int j ∧ (-(2 ^ 62) ≤ j ∧ j < 2 ^ 62) ∧ K (rng 0 j.toNat) ρ1) : DI X F tg (.Call (.Name "range" fp) [a] [] p') ρ K := by
  refine ⟨_, pi_range1 hg B.range (ra [a]) hs, fun σ H R ok k => ?_⟩
  refine a_cons hs (de_run q ok fun v H1 d ρ1 ok1 r1 k1 ⟨j, hd, hj, q⟩ => a_nil ?_)
  subst hd
  rw [r1.intV]
  exact ⟨j, rfl, hj.1, hj.2, k _ _ ρ1 [] _ ok1 k1 dit_rng q⟩
theorem di_R2 (B : Blt X.mg) (hg : Gl X "range") (hs : starEach [a, b] X.env = [(false, eval a X.env), (false, eval b X.env)]) (hs2 : starEach [b] X.env = [(false, eval b X.env)])
    (q : DE X F a ρ fun d ρ1 => ∃ lo : Int, d = .int lo ∧ DE X F b ρ1 fun d ρ2 => ∃ j : Int, d = .int j ∧ (-(2 ^ 62) ≤ lo ∧ lo < 2 ^ 62 ∧ -(2 ^ 62) ≤ j ∧ j < 2 ^ 62) ∧ K (rng lo (j - lo).toNat) ρ2) : DI X F tg (.Call (.Name "range" fp) [a, b] [] p') ρ K := by
  have hs' : starEach [a, b] X.env = (false, eval a X.env) :: starEach [b] X.env := by rw [hs, hs2]
  refine ⟨_, pi_range2 hg B.range (ra [a, b]) hs hs2, fun σ H R ok k => ?_⟩
  refine a_cons hs' (de_run q ok fun v H1 d ρ1 ok1 r1 k1 ⟨lo, hd, q⟩ => a_cons hs2 (de_run q ok1 fun u H2 d2 ρ2 ok2 r2 k2 ⟨j, hd2, hj, q⟩ => a_nil ?_))
  subst hd
  subst hd2
  rw [r1.intV, r2.intV]
  exact ⟨lo, j, rfl, hj, k _ _ ρ2 [] _ ok2 (k1.trans k2) dit_rng q⟩
theorem di_ET {elts : List Expr} {kk : Nat} {tpos : Pos} [f : Fit X F] (B : Blt X.mg) (hg : Gl X "enumerate") (hs : starEach [e] X.env = [(false, eval e X.env)]) (q : DE X F e ρ fun d ρ1 => ∃ ds, d = .tup ds ∧ K (enumD ds) ρ1) :
    DI X F (.Tuple elts kk tpos) (.Call (.Name "enumerate" fp) [e] [] p') ρ K := by
  refine ⟨_, pi_enumT hg B.enumerate (ra [e]) hs, fun σ H R ok k => ?_⟩
  refine a_cons hs (de_run q ok fun v H1 d ρ1 ok1 r1 k1 ⟨ds, hi, q⟩ => a_nil ?_)
  subst hi
  obtain ⟨a, xs, rfl, hl, hh⟩ := tup_hold r1
  have hlen : xs.length = ds.length := RepL.len (hh (ofReps F.K F.w F.cl xs ds) (List.mem_cons_of_mem _ (List.mem_cons_self ..)))
  exact ⟨a, xs, rfl, by rw [← f.K]; exact hl, k _ _ ρ1 _ _ (ok1.addHold hh) k1 (by rw [← f.K]; exact dit_enumT hlen) q⟩

/-! ### list comprehensions -/
def wipeE (ρ : En) : List Nat → En
  | [] => ρ
  | v :: vs => (wipeE ρ vs).set v none
theorem wipe_get {σ : St} {j : Nat} : ∀ {vs : List Nat}, j ∉ vs → (wipe σ vs)[j]? = σ[j]?
  | [], _ => rfl
  | v :: vs, h => by
    show ((wipe σ vs).set v none)[j]? = _
    rw [List.getElem?_set_ne (fun e => h (by rw [← e]; exact List.mem_cons_self ..))]
    exact wipe_get fun q => h (List.mem_cons_of_mem _ q)
theorem wipeE_get {ρ : En} {j : Nat} : ∀ {vs : List Nat}, j ∉ vs → (wipeE ρ vs)[j]? = ρ[j]?
  | [], _ => rfl
  | v :: vs, h => by
    show ((wipeE ρ vs).set v none)[j]? = _
    rw [List.getElem?_set_ne (fun e => h (by rw [← e]; exact List.mem_cons_self ..))]
    exact wipeE_get fun q => h (List.mem_cons_of_mem _ q)
theorem wipeE_none {ρ : En} {j : Nat} {d : D} : ∀ {vs : List Nat}, (wipeE ρ vs)[j]? = some (some d) → j ∉ vs
  | [], _ => by simp
  | v :: vs, h => by
    have h : ((wipeE ρ vs).set v none)[j]? = some (some d) := h
    by_cases e : v = j
    · subst e
      rw [List.getElem?_set] at h
      simp at h
    · rw [List.getElem?_set_ne e] at h
      intro q
      rcases List.mem_cons.mp q with q | q
      · exact e q.symm
      · exact wipeE_none h q
theorem wipeE_len {ρ : En} : ∀ {vs : List Nat}, (wipeE ρ vs).length = ρ.length
  | [] => rfl
  | v :: vs => by show ((wipeE ρ vs).set v none).length = _; rw [List.length_set, wipeE_len]
theorem isM_wipe {vs : List Nat} {j : Nat} (h : IsM (wipeE ρ vs) j) : j ∉ vs ∧ IsM ρ j := by
  obtain ⟨ds, h⟩ := h
  have n : j ∉ vs := by rcases h with h | h <;> exact wipeE_none h
  rw [wipeE_get n] at h
  exact ⟨n, ds, h⟩
/-- into the block, and out of it: σ and σ' are alike but for vs -/
theorem Ok.wiped {σ' : St} {vs : List Nat} (ok : Ok F H σ ρ) (hσ : ∀ j, j ∉ vs → σ'[j]? = σ[j]?) (hl : σ'.length = σ.length) : Ok F H σ' (wipeE ρ vs) ∧ Kp (Mut σ ρ) H (Mut σ' (wipeE ρ vs)) H := by
  have hm : ∀ b, Mut σ' (wipeE ρ vs) b → Mut σ ρ b := fun b ⟨j, m, e⟩ => by
    obtain ⟨n, m⟩ := isM_wipe m
    rw [hσ j n] at e
    exact ⟨j, m, e⟩
  refine ⟨ok.slots hm (by rw [wipeE_len, hl]; exact ok.len) (fun j d h => ?_) (fun j k b n m1 m2 e1 e2 => ?_), .weak hm⟩
  · have n := wipeE_none h
    rw [wipeE_get n] at h
    rw [hσ j n]
    exact ok.slot j d h
  · obtain ⟨n1, m1⟩ := isM_wipe m1
    obtain ⟨n2, m2⟩ := isM_wipe m2
    rw [hσ j n1] at e1
    rw [hσ k n2] at e2
    exact ok.dist j k b n m1 m2 e1 e2
theorem wipe_set {σ : St} {k : Nat} {v : Option V} : ∀ {vs : List Nat}, k ∈ vs → wipe (σ.set k v) vs = wipe σ vs
  | w :: vs, h => by
    show (wipe (σ.set k v) vs).set w none = (wipe σ vs).set w none
    by_cases hk : k ∈ vs
    · rw [wipe_set hk]
    · have e : k = w := by rcases List.mem_cons.mp h with h | h; exact h; exact (hk h).elim
      subst e
      have : ∀ {us : List Nat}, k ∉ us → wipe (σ.set k v) us = (wipe σ us).set k v := by
        intro us
        induction us with
        | nil => intro _; rfl
        | cons u us ih =>
          intro hn
          show (wipe (σ.set k v) us).set u none = ((wipe σ us).set u none).set k v
          rw [ih (fun q => hn (List.mem_cons_of_mem _ q)), List.set_comm]
          intro e
          exact hn (by rw [e]; exact List.mem_cons_self ..)
      rw [this hk, List.set_set]
theorem wipe_wipe {σ : St} : ∀ {us vs : List Nat}, (∀ k ∈ us, k ∈ vs) → wipe (wipe σ us) vs = wipe σ vs
  | [], _, _ => rfl
  | u :: us, vs, h => by
    show wipe ((wipe σ us).set u none) vs = _
    rw [wipe_set (h u (List.mem_cons_self ..))]
    exact wipe_wipe fun k hk => h k (List.mem_cons_of_mem _ hk)
/-- a target of a comprehension -/
def DV (X : Cx) (F : Fx) (vs : List Nat) (tg : Expr) (d : D) (ρ : En) (N : En → Prop) : Prop := ∀ σ H v, Ok F H σ ρ → F.R (Av F σ ρ) H v d → RG X tg v σ H fun σ' H' => (∀ j, j ∉ vs → σ'[j]? = σ[j]?) ∧ wipe σ' vs = wipe σ vs ∧ ∃ ρ', Ok F H' σ' ρ' ∧ Kp (Mut σ ρ) H (Mut σ' ρ') H' ∧ N ρ'
def DVs (X : Cx) (F : Fx) (vs : List Nat) (tgs : List Expr) (ds : List D) (ρ : En) (N : En → Prop) : Prop := ∀ σ H us, Ok F H σ ρ → F.L (Av F σ ρ) H us ds → RGs X tgs us σ H fun σ' H' => (∀ j, j ∉ vs → σ'[j]? = σ[j]?) ∧ wipe σ' vs = wipe σ vs ∧ ∃ ρ', Ok F H' σ' ρ' ∧ Kp (Mut σ ρ) H (Mut σ' ρ') H' ∧ N ρ'
theorem dv_name {N : En → Prop} {vs : List Nat} {k : Nat} (hN : X.N.Nodup) (hk : X.N[k]? = some x) (hv : k ∈ vs) (hx : Loc X.env.scope x) (hf : X.fn x = true ∨ X.env.scope.names.lookup x = some .local) (q : N (ρ.set k (some d))) : DV X F vs (.Name x pos) d ρ N := fun σ H v ok r => by
  refine rg_of (pg_name (i := k) hN hk hx hf) ⟨fun j n => ?_, wipe_set hv, _, ok.set r, ?_, q⟩
  · rw [List.getElem?_set_ne (fun e => n (by rw [← e]; exact hv))]
  · exact .weak fun b ⟨j, m, e⟩ => by
      rcases isM_set m with ⟨_, ds, h⟩ | ⟨n, m⟩
      · rcases h with h | h
        · cases h; exact r.noOwn.elim
        · cases h; exact r.noBor.elim
      · rw [List.getElem?_set_ne (fun q => n q.symm)] at e
        exact ⟨j, m, e⟩
theorem dvs_nil {N : En → Prop} {vs : List Nat} (q : N ρ) : DVs X F vs [] [] ρ N := fun σ H us ok r => by
  cases r
  exact gs_nil ⟨fun _ _ => rfl, rfl, ρ, ok, .refl, q⟩
theorem Kp.mut2 {σ' : St} (k : Kp (Mut σ ρ) H (Mut σ' ρ') H') : Kp (Av F σ ρ) H (Av F σ' ρ') H' :=
  ⟨fun b o h n => k.keep b o h fun m => n (.inr m), fun b o h n q => by
    rcases q with q | q
    · exact n (.inl q)
    · exact k.none b o h (fun m => n (.inr m)) q⟩
theorem dvs_cons {N : En → Prop} {vs : List Nat} {ds : List D} (hs : (assignEach (e :: es) X.env).map (·.2) = assign e X.env :: (assignEach es X.env).map (·.2)) (q : DV X F vs e d ρ fun ρ1 => DVs X F vs es ds ρ1 N) : DVs X F vs (e :: es) (d :: ds) ρ N := fun σ H us ok r => by
  cases r with
  | cons r t => exact gs_cons hs (rg_mono (q σ H _ ok r) fun σ1 H1 ⟨h1, w1, ρ1, ok1, k1, q1⟩ => rgs_mono (q1 σ1 H1 _ ok1 (t.step k1.mut2)) fun σ2 H2 ⟨h2, w2, ρ2, ok2, k2, q2⟩ => ⟨fun j n => (h2 j n).trans (h1 j n), w2.trans w1, ρ2, ok2, k1.trans k2, q2⟩)
theorem dv_tup {N : En → Prop} {vs : List Nat} {k n : Nat} {ds : List D} [f : Fit X F] (hc : X.calm = true) (hn : (assignEach es X.env).length = n) (hst : (assignEach es X.env).findIdx? (·.1) = none) (hl : ds.length = n) (q : DVs X F vs es ds ρ N) : DV X F vs (.Tuple es k pos) (.tup ds) ρ N := fun σ H v ok r => by
  obtain ⟨a, xs, rfl, hx, r⟩ := r.tupRef
  exact g_tup hc hn hst (by rw [← f.K]; exact hx) (by rw [r.len]; exact hl) (q σ H xs ok r)
/-- in the block -/
def InB (X : Cx) (scope : Scope) (P : Cx → Prop) : Prop := ∀ (s : Shared) (H0 : Hp) (C : Addr) (cl : List (Str × Addr)) (fp : List Addr), P (X.blk s H0 scope (compEnvC scope cl C X.env) fp)
def DTe (X : Cx) (F : Fx) (scope : Scope) (ifs : List Expr) (ρ : En) (K : Bool → En → Prop) : Prop := match ifs with
  | [] => K true ρ
  | [c] => InB X scope fun Y => DT Y F c ρ K
  | _ => False
/-- the turns -/
def DLc (X : Cx) (F : Fx) (scope : Scope) (vs : List Nat) (tg : Expr) (ifs : List Expr) (elt : Expr) : List D → List D → En → (List D → En → Prop) → Prop
  | [], acc, ρ, K => K acc ρ
  | x :: xs, acc, ρ, K => InB X scope fun Y => DV Y F vs tg x (wipeE ρ vs) fun ρ1 => DTe X F scope ifs ρ1 fun b ρ2 =>
      if b = true then InB X scope fun Y => DE Y F elt ρ2 fun y ρ3 => acc.length < sizeLine ∧ DLc X F scope vs tg ifs elt xs (acc ++ [y.fz]) (wipeE ρ3 vs) K else DLc X F scope vs tg ifs elt xs acc (wipeE ρ2 vs) K
instance {s : Shared} {H0 : Hp} {scope : Scope} {cenv : Env} {fp : List Addr} [f : Fit X F] : Fit (X.blk s H0 scope cenv fp) F := ⟨f.K, f.w⟩
theorem dte_run {scope : Scope} {R : Bool → Hp → Prop} (h : DTe X F scope ifs ρ QB) (ok : Ok F H σ ρ) (k : ∀ b H' ρ', Ok F H' σ ρ' → Kp (Mut σ ρ) H (Mut σ ρ') H' → QB b ρ' → R b H') : LcTest X scope ifs σ H R := by
  match ifs, h with
  | [], h => exact k true H ρ ok .refl h
  | [c], h => exact fun s H0 C cl fp => dt_run (h s H0 C cl fp) ok k
theorem Ok.notMut {D' : Addr} (ok : Ok F H σ ρ) (ho : F.Out D') (nb : ¬ F.B D') : ¬ Mut σ ρ D' := fun ⟨j, ⟨ds, hd⟩, e⟩ => by
  rcases hd with hd | hd
  · obtain ⟨w, e1, e2⟩ := ok.slot j _ hd
    rw [e] at e1
    cases e1
    cases e2 with
    | own _ _ o _ => exact o ho
    | rep r => exact r.noOwn
  · obtain ⟨w, e1, e2⟩ := ok.slot j _ hd
    rw [e] at e1
    cases e1
    cases e2 with
    | bor _ b _ => exact nb b
    | rep r => exact r.noBor
theorem Ok.updOut {D' : Addr} {u : HO} (ok : Ok F H σ ρ) (ho : F.Out D') (nb : ¬ F.B D') (h0 : F.H0 D' = none) (hc : chg u = true := by rfl) : Ok F (upd H D' u) σ ρ ∧ Kp (Av F σ ρ) H (Av F σ ρ) (upd H D' u) := by
  have kp : Kp (Av F σ ρ) H (Av F σ ρ) (upd H D' u) := ⟨fun b o h n => by rw [upd_ne (fun e => n (by rw [e]; exact .inl ho))]; exact h, fun _ _ _ n => n⟩
  refine ⟨{ len := ok.len, slot := fun i d h => ?_, dist := ok.dist, keep := fun b o h n => ?_, out := fun b h => ?_, bo := ok.bo, held := fun p hp => p.st _ _ _ _ (ok.held p hp) kp }, kp⟩
  · obtain ⟨w, e1, e2⟩ := ok.slot i d h
    refine ⟨w, e1, e2.step kp fun a vs hw m h' => ?_⟩
    subst hw
    rw [upd_ne]
    · exact h'
    · intro e
      subst e
      refine ok.notMut ho nb ⟨i, ?_, e1⟩
      rcases m with ⟨ds, rfl⟩ | ⟨ds, rfl⟩
      · exact ⟨ds, .inl h⟩
      · exact ⟨ds, .inr h⟩
  · rw [upd_ne (fun e => by rw [e, h0] at h; cases h)]
    exact ok.keep b o h n
  · by_cases e : b = D'
    · subst e; exact ⟨_, upd_same, hc⟩
    · obtain ⟨o, h1, h2⟩ := ok.out b h
      exact ⟨o, by rw [upd_ne e]; exact h1, h2⟩
theorem Kp.orD {O O' : Addr → Prop} {D' : Addr} (k : Kp O H O' H') : Kp (fun b => O b ∨ b = D') H (fun b => O' b ∨ b = D') H' :=
  ⟨fun b o h n => k.keep b o h fun q => n (.inl q), fun b o h n q => by
    rcases q with q | q
    · exact k.none b o h (fun q => n (.inl q)) q
    · exact n (.inr q)⟩
theorem Kp.updD {O : Addr → Prop} {D' : Addr} {u : HO} : Kp (fun b => O b ∨ b = D') H (fun b => O b ∨ b = D') (upd H D' u) :=
  ⟨fun b o h n => by rw [upd_ne (fun e => n (.inr e))]; exact h, fun _ _ _ n => n⟩
theorem d_lc {scope : Scope} {own : List (Str × Nat)} (hc : X.calm = true) (hN : X.N.Nodup) (ok : BlkOk X.N X.env.scope scope own) (hl : ifs.length ≤ 1) (hs : ∀ x, foldedSetIterable iter X.env x = pure x)
    (q : DI X F tg iter ρ fun ds ρ1 => ∀ hs D', DLc X ((F.also hs).out D') scope (own.map (·.2)) tg ifs elt ds [] ρ1 fun acc ρ2 => Q (.own (.lst acc)) ρ2) : DE X F (.ListComp elt [⟨tg, iter, ifs, 0⟩] scope pos) ρ Q := fun σ H ok0 => by
  obtain ⟨wi, hi, q⟩ := q
  refine e_lcI hc hN hi ok hl hs ?_
  refine q σ H _ ok0 fun J H1 ρ1 hs ds ok1 k1 it q => ?_
  intro D' hD
  have q := q hs D'
  generalize hvs : own.map (·.2) = vs at q ⊢
  have L2 : Like ((F.also hs).out D') F := ⟨rfl, rfl, rfl, rfl, rfl⟩
  have hO : ((F.also hs).out D').Out D' := .inr rfl
  have nb : ¬ ((F.also hs).out D').B D' := fun h => ok1.navn hD (.inl (ok1.bo D' h))
  have h0 : ((F.also hs).out D').H0 D' = none := ok1.n0 hD
  have no : ¬ F.Out D' := fun h => ok1.navn hD (.inl h)
  refine ⟨fun i m H => m = ds.length - i ∧ i ≤ ds.length ∧ ∃ ρ accV acc, Ok ((F.also hs).out D') H σ ρ ∧ Kp (fun b => Mut σ ρ1 b ∨ b = D') (upd H1 D' (.lst [])) (fun b => Mut σ ρ b ∨ b = D') H ∧ H D' = some (.lst accV) ∧ F.L (Av ((F.also hs).out D') σ ρ) H accV acc ∧
    DLc X ((F.also hs).out D') scope vs tg ifs elt (ds.drop i) acc ρ fun acc ρ2 => Q (.own (.lst acc)) ρ2, ⟨_, rfl, Nat.zero_le _, ρ1, [], [], ok1.addOut hD, .refl, upd_same, .nil, q⟩, ?_⟩
  rintro i m H ⟨rfl, hi, ρ, accV, acc, ok, kp, ha, ra, q⟩
  obtain ⟨j1, j2⟩ := it ((F.also hs).out D') H σ ρ i L2 (fun p hp => List.mem_append_left _ hp) ok
  by_cases hlt : i < ds.length
  · have hg : ds[i]? = some ds[i] := List.getElem?_eq_getElem hlt
    obtain ⟨g, y⟩ := j2 _ hg
    rw [drop_get hg] at q
    refine .inr ⟨g, fun H => ∃ ρ accV acc, Ok ((F.also hs).out D') H σ ρ ∧ Kp (fun b => Mut σ ρ1 b ∨ b = D') (upd H1 D' (.lst [])) (fun b => Mut σ ρ b ∨ b = D') H ∧ H D' = some (.lst accV) ∧ F.L (Av ((F.also hs).out D') σ ρ) H accV acc ∧
      DLc X ((F.also hs).out D') scope vs tg ifs elt (ds.drop (i + 1)) acc ρ fun acc ρ2 => Q (.own (.lst acc)) ρ2, fun H' h => ⟨_, by omega, rfl, hlt, h⟩, fun x H2 hy => ?_⟩
    obtain ⟨y1, y2⟩ := y x H2 hy
    have ok2 := ok.grow y1
    have kg : Kp (Mut σ ρ) H (Mut σ ρ) H2 := .new y1
    obtain ⟨okw, kw⟩ := ok2.wiped (σ' := wipe σ vs) (vs := vs) (fun j n => wipe_get n) (wipe_length _ _)
    intro s H0 C cl fp
    refine rg_mono (q s H0 C cl fp _ _ _ okw (Rep.step kw.mut2 y2)) fun σ3 H3 ⟨hσ, hw, ρ3, ok3, k3, q3⟩ => ?_
    have hw' : wipe σ3 vs = wipe σ vs := hw.trans (wipe_wipe fun _ h => h)
    have hσ' : ∀ j, j ∉ vs → σ[j]? = σ3[j]? := fun j n => by rw [hσ j n, wipe_get n]
    have hlen : σ.length = σ3.length := by
      have := congrArg List.length hw'
      rw [wipe_length, wipe_length] at this
      exact this.symm
    refine ⟨hw', dte_run q3 ok3 fun b H4 ρ4 ok4 k4 q4 => ?_⟩
    have ka : Kp (Mut σ ρ) H (Mut σ3 ρ4) H4 := ((kg.trans kw).trans k3).trans k4
    cases b with
    | true =>
      refine iteT ?_
      have q4 : InB X scope fun Y => DE Y ((F.also hs).out D') elt ρ4 fun y ρ3 => acc.length < sizeLine ∧ DLc X ((F.also hs).out D') scope vs tg ifs elt (ds.drop (i + 1)) (acc ++ [y.fz]) (wipeE ρ3 vs) fun acc ρ2 => Q (.own (.lst acc)) ρ2 := q4
      intro s H0 C cl fp
      refine de_run (q4 s H0 C cl fp) ok4 fun v H5 y ρ5 ok5 r5 k5 ⟨hz, q5⟩ => ?_
      have kb : Kp (Mut σ ρ) H (Mut σ3 ρ5) H5 := ka.trans k5
      have ha5 : H5 D' = some (.lst accV) := kb.keep _ _ ha (ok.notMut hO nb)
      have ra5 : F.L (Av ((F.also hs).out D') σ3 ρ5) H5 accV acc := RepL.step kb.mut2 ra
      refine ⟨accV, ha5, by rw [ra5.len]; exact hz, ?_⟩
      obtain ⟨ok6, k6⟩ := ok5.updOut (u := .lst (accV ++ [v])) hO nb h0
      obtain ⟨ok7, k7⟩ := ok6.wiped (σ' := σ) (vs := vs) hσ' hlen
      refine ⟨_, accV ++ [v], acc ++ [y.fz], ok7, ?_, upd_same, ?_, q5⟩
      · exact ((kp.trans kb.orD).trans Kp.updD).trans k7.orD
      · exact RepL.step k7.mut2 (RepL.step k6 (ra5.app (.cons r5 .nil)))
    | false =>
      refine iteF ?_
      have q4 : DLc X ((F.also hs).out D') scope vs tg ifs elt (ds.drop (i + 1)) acc (wipeE ρ4 vs) fun acc ρ2 => Q (.own (.lst acc)) ρ2 := q4
      obtain ⟨ok7, k7⟩ := ok4.wiped (σ' := σ) (vs := vs) hσ' hlen
      refine ⟨_, accV, acc, ok7, (kp.trans ka.orD).trans k7.orD, ka.keep _ _ ha (ok.notMut hO nb), RepL.step (ka.trans k7).mut2 ra, q4⟩
  · have ei : i = ds.length := by omega
    rw [List.drop_eq_nil_of_le (by omega)] at q
    have q : Q (.own (.lst acc)) ρ := q
    refine .inl ⟨j1 ei, .own (.lst acc), ρ, .own ha h0 no nb (ok.notMut hO nb) ?_ (.lst ra), ?_, q⟩
    · exact ok.move ⟨rfl, rfl, rfl, rfl, rfl⟩ (fun _ _ e => e) (fun b u e q => q) ok.out ok.bo (fun q hq => ok.held q (List.mem_append_right _ hq))
    · refine ⟨fun b o h n => ?_, fun b o h n m => ?_⟩
      · have h1 := k1.keep b o h n
        have hne : b ≠ D' := fun e => by rw [e, hD] at h1; cases h1
        exact kp.keep b o (by rw [upd_ne hne]; exact h1) (fun q => by
          rcases q with q | q
          · exact k1.none b o h n q
          · exact hne q)
      · have h1 := k1.keep b o h n
        have hne : b ≠ D' := fun e => by rw [e, hD] at h1; cases h1
        exact kp.none b o (by rw [upd_ne hne]; exact h1) (fun q => by
          rcases q with q | q
          · exact k1.none b o h n q
          · exact hne q) (.inl m)
end
end Dx

end
section -- Dl
set_option maxRecDepth 100000
set_option maxHeartbeats 4000000
/-! Left-overs of the walk. -/
namespace Dx
open PySem PySem.Spec L2 Sx
open PyProof.Rows hiding St
section
variable {X : Cx} {F : Fx} {e a b c l o tg iter elt : Expr} {es ifs : List Expr} {st : Stmt} {sts body : List Stmt} {ρ ρ' ρ1 : En} {σ : St} {H H' : Hp} {pos p pos' apos np fp p' pk : Pos} {x k : Str} {d d0 : D} {v u : V} {i j : Int} {E : DEnds} {Q : DQ} {QB : Bool → En → Prop} {K : List D → En → Prop}
theorem dss_env (h : ρ = ρ') (q : DSs X F sts E ρ') : DSs X F sts E ρ := by rw [h]; exact q
theorem de_env (h : ρ = ρ') (q : DE X F e ρ' Q) : DE X F e ρ Q := by rw [h]; exact q
theorem dt_env (h : ρ = ρ') (q : DT X F e ρ' QB) : DT X F e ρ QB := by rw [h]; exact q
theorem dg_env {N : En → Prop} (h : ρ = ρ') (q : DG X F e d ρ' N) : DG X F e d ρ N := by rw [h]; exact q
theorem dgs_env {N : En → Prop} {ds : List D} (h : ρ = ρ') (q : DGs X F es ds ρ' N) : DGs X F es ds ρ N := by rw [h]; exact q
theorem dte_nil {scope : Scope} (q : QB true ρ) : DTe X F scope [] ρ QB := q
theorem dte_one {scope : Scope} (q : InB X scope fun Y => DT Y F c ρ QB) : DTe X F scope [c] ρ QB := q
theorem turn0 {scope : Scope} {n : Nat} {kp : Pos} {K : Bool → En → Prop} (hN : X.N.Nodup) (hk : X.N[n]? = some k) (hx : InB X scope fun Y => Loc Y.env.scope k) (hf : InB X scope fun Y => Y.fn k = true ∨ Y.env.scope.names.lookup k = some .local) (h : (wipeE ρ [n]).set n (some d) = ρ') (q : K true ρ') :
    InB X scope fun Y => DV Y F [n] (.Name k kp) d (wipeE ρ [n]) fun ρ1 => DTe X F scope [] ρ1 K := fun s H0 C cl fp => dv_name hN hk (List.mem_singleton.mpr rfl) (hx s H0 C cl fp) (hf s H0 C cl fp) (by rw [h]; exact q)
theorem turn1 {scope : Scope} {n : Nat} {kp : Pos} {K : Bool → En → Prop} (hN : X.N.Nodup) (hk : X.N[n]? = some k) (hx : InB X scope fun Y => Loc Y.env.scope k) (hf : InB X scope fun Y => Y.fn k = true ∨ Y.env.scope.names.lookup k = some .local) (h : (wipeE ρ [n]).set n (some d) = ρ') (q : InB X scope fun Y => DT Y F c ρ' K) :
    InB X scope fun Y => DV Y F [n] (.Name k kp) d (wipeE ρ [n]) fun ρ1 => DTe X F scope [c] ρ1 K := fun s H0 C cl fp => dv_name hN hk (List.mem_singleton.mpr rfl) (hx s H0 C cl fp) (hf s H0 C cl fp) (by rw [h]; exact q)
theorem dp_none {QP : Option Int → En → Prop} (q : QP none ρ) : DP X F none ρ QP := q
theorem dp_some {QP : Option Int → En → Prop} (q : DE X F e ρ fun x ρ1 => ∃ i, x = .int i ∧ QP (some i) ρ1) : DP X F (some e) ρ QP := q
theorem exI {A : Int → Prop} (q : A i) : ∃ k, D.int i = .int k ∧ A k := ⟨i, rfl, q⟩
theorem exB {t : Bool} {A : Bool → Prop} (q : A t) : ∃ k, D.bl t = .bl k ∧ A k := ⟨t, rfl, q⟩
theorem exVals {as : List Ag} {ds : List D} {A : List D → Prop} (h : agV as = some ds) (q : A ds) : ∃ ds, agV as = some ds ∧ A ds := ⟨ds, h, q⟩
theorem exLen {as : List Ag} {ds : List D} {A : List D → Prop} (h : agV as = some ds) (hl : ds.length ≤ sizeLine) (q : A ds) : ∃ ds, agV as = some ds ∧ ds.length ≤ sizeLine ∧ A ds := ⟨ds, h, hl, q⟩
theorem exIx {N : List Str} {d1 : D} {ds : List D} {A : D → Prop} (h : (N.zip ρ).lookup x = some (some d1)) (hi : d1.items = some ds) (ha : atI ds i = some d) (q : A d) : ∃ i' d1 ds d, D.int i = .int i' ∧ (N.zip ρ).lookup x = some (some d1) ∧ d1.items = some ds ∧ atI ds i' = some d ∧ A d := ⟨i, d1, ds, d, rfl, h, hi, ha, q⟩
theorem exSub {N : List Str} {d1 : D} {ds : List D} {n : Nat} {A : Nat → D → List D → Prop} (h : (N.zip ρ).lookup x = some (some d1)) (hi : d1.mutIs = some ds) (ha : ixN ds.length i = some n) (q : A n d1 ds) : ∃ i' k d1 ds, D.int i = .int i' ∧ (N.zip ρ).lookup x = some (some d1) ∧ d1.mutIs = some ds ∧ ixN ds.length i' = some k ∧ A k d1 ds := ⟨i, n, d1, ds, rfl, h, hi, ha, q⟩
theorem exApp {N : List Str} {d1 : D} {ds : List D} {A : D → List D → Prop} (h : (N.zip ρ).lookup x = some (some d1)) (hi : d1.mutIs = some ds) (hl : ds.length < sizeLine) (q : A d1 ds) : ∃ d1 ds, (N.zip ρ).lookup x = some (some d1) ∧ d1.mutIs = some ds ∧ ds.length < sizeLine ∧ A d1 ds := ⟨d1, ds, h, hi, hl, q⟩
theorem small8999 {j : Int} (h : j < 2 ^ 62) : j < 2 ^ 8999 := Int.lt_of_lt_of_le h (by decide +kernel)
/-- a comprehension with one name -/
theorem d_lc1 {scope : Scope} {n : Nat} (hk : X.N[n]? = some k) (hc : X.calm = true) (hN : X.N.Nodup) (ok : blkN X.N X.env.scope scope [k] = true) (hl : ifs.length ≤ 1) (hs : ∀ x, foldedSetIterable iter X.env x = pure x)
    (q : DI X F (.Name k pk) iter ρ fun ds ρ1 => ∀ hs D', DLc X ((F.also hs).out D') scope [n] (.Name k pk) ifs elt ds [] ρ1 fun acc ρ2 => Q (.own (.lst acc)) ρ2) : DE X F (.ListComp elt [⟨.Name k pk, iter, ifs, 0⟩] scope pos) ρ Q :=
  d_lc (own := [(k, n)]) hc hN (blkOk_of (own1 hk) ok) hl hs q
/-- the turns by an invariant -/
theorem dlc_inv {scope : Scope} {vs : List Nat} {xs : List D} (I : Nat → List D → En → Prop) (h0 : I 0 [] ρ) {K : List D → En → Prop} (hs : ∀ m d acc ρ, xs[m]? = some d → I m acc ρ → InB X scope fun Y => DV Y F vs tg d (wipeE ρ vs) fun ρ1 => DTe X F scope ifs ρ1 fun b ρ2 =>
      if b = true then InB X scope fun Y => DE Y F elt ρ2 fun y ρ3 => acc.length < sizeLine ∧ I (m + 1) (acc ++ [y.fz]) (wipeE ρ3 vs) else I (m + 1) acc (wipeE ρ2 vs)) (hd : ∀ acc ρ, I xs.length acc ρ → K acc ρ) : DLc X F scope vs tg ifs elt xs [] ρ K := by
  have dvm : ∀ {Y : Cx} {tg : Expr} {d : D} {ρ : En} {N N' : En → Prop}, DV Y F vs tg d ρ N → (∀ ρ, N ρ → N' ρ) → DV Y F vs tg d ρ N' := fun h k σ H v ok r => rg_mono (h σ H v ok r) fun σ' H' ⟨a, b, ρ', c, e, q⟩ => ⟨a, b, ρ', c, e, k _ q⟩
  have dtm : ∀ {ρ : En} {N N' : Bool → En → Prop}, DTe X F scope ifs ρ N → (∀ b ρ, N b ρ → N' b ρ) → DTe X F scope ifs ρ N' := by
    intro ρ N N' h k
    match ifs, h with
    | [], h => exact k _ _ h
    | [c], h => exact fun s H0 C cl fp => (h s H0 C cl fp).mono fun b ρ q => k b ρ q
  have key : ∀ (n m : Nat) (acc : List D) (ρ : En), n + m = xs.length → I m acc ρ → DLc X F scope vs tg ifs elt (xs.drop m) acc ρ K := by
    intro n
    induction n with
    | zero =>
      intro m acc ρ e h
      rw [List.drop_eq_nil_of_le (by omega)]
      rw [show m = xs.length by omega] at h
      exact hd acc ρ h
    | succ n ih =>
      intro m acc ρ e h
      have hk : m < xs.length := by omega
      have hg : xs[m]? = some xs[m] := List.getElem?_eq_getElem hk
      rw [drop_get hg]
      intro s H0 C cl fp
      refine dvm (hs m _ acc ρ hg h s H0 C cl fp) fun ρ1 q1 => dtm q1 fun b ρ2 q2 => ?_
      cases b with
      | true =>
        refine iteT ?_
        have q2 : InB X scope fun Y => DE Y F elt ρ2 fun y ρ3 => acc.length < sizeLine ∧ I (m + 1) (acc ++ [y.fz]) (wipeE ρ3 vs) := q2
        exact fun s H0 C cl fp => (q2 s H0 C cl fp).mono fun y ρ3 ⟨h1, h2⟩ => ⟨h1, ih (m + 1) _ _ (by omega) h2⟩
      | false =>
        refine iteF ?_
        exact ih (m + 1) _ _ (by omega) q2
  have := key xs.length 0 [] ρ (by omega) h0
  rwa [List.drop_zero] at this
end
end Dx

end
section -- Dm
set_option maxRecDepth 100000
set_option maxHeartbeats 4000000
/-! Objects: made, asked, put together. -/
namespace Dx
open PySem PySem.Spec L2 Sx
open PyProof.Rows hiding St
section
variable {X : Cx} {F : Fx} {e a b c l o : Expr} {es : List Expr} {ρ ρ' ρ1 : En} {σ : St} {H H' : Hp} {pos p apos fp : Pos} {x m cn : Str} {d : D} {v u : V} {i j : Int} {Q : DQ} {k : Nat} {ps : List Str} {sp : DSp} {C : Addr} {fs gs : List (Str × D)}
/-- nothing is lent: what a promise gives -/
theorem ret_none {outs : List MV} {t : Option Addr} (ok : Ok F H σ ρ) (R : Ret F.K F.w F.cl (Av F σ ρ) H none outs v H' d t) : Res F H' σ v d ρ ∧ Kp (Mut σ ρ) H (Mut σ ρ) H' := ret_res (l := none) (outs := outs) ok (fun _ => rfl) (fun i h => by cases h) R
theorem ofSp {vs : List V} {ds : List D} [f : Fit X F] {Q' : VK} {K' : D → List MV → Prop} (ok : Ok F H σ ρ) (r : F.L (Av F σ ρ) H vs ds) (q : sp ds K') (k : ∀ d outs, K' d outs → ∀ v H', Res F H' σ v d ρ → Kp (Mut σ ρ) H (Mut σ ρ) H' → Q' v H') : toSp X.K X.w F.cl sp vs H Q' E0 := by
  refine ⟨ds, Av F σ ρ, none, _, fun b h => ok.av h, ?_, q, fun d outs hq v H' t R => ?_⟩
  · rw [← f.K, ← f.w]; exact ArgsR.of r
  · rw [← f.K, ← f.w] at R
    obtain ⟨r1, r2⟩ := ret_none ok R
    exact k d outs hq v H' r1 r2
theorem Rep.insRef {K : PySem.W.Frag} {w : World} {cl : Nm} {O : Addr → Prop} (r : Rep K w cl O H v (.ins cn fs)) : ∃ a C dx vs, v = .ref a ∧ cl.c cn = some C ∧ H a = some (.ins C dx vs) ∧ vs.map (·.1) = fs.map (·.1) := by
  cases r with
  | ins hc g h n k r => exact ⟨_, _, _, _, rfl, hc, h, k⟩
theorem lookup_names {κ : Type} {x : Str} : ∀ {us : List (Str × κ)} {vs : List (Str × D)}, us.map (·.1) = vs.map (·.1) → vs.lookup x = none → us.lookup x = none
  | [], _, _, _ => rfl
  | (n, u) :: us, [], e, _ => by simp at e
  | (n, u) :: us, (n', v) :: vs, e, h => by
    simp at e
    obtain ⟨e1, e2⟩ := e
    subst e1
    rw [List.lookup_cons] at h ⊢
    split at h
    · cases h
    · exact lookup_names e2 h
/-- a op b of one class -/
theorem do_own {op : Operator} [f : Fit X F] (hc : F.cl.c cn = some C) (O : Ops X.K C) (M : MethOk X.prog X.w X.K X.mg X.base C (PySem.dunder op.info.2) k ps (toSp X.K X.w F.cl sp)) (hr : Room k X.A) (q : sp [.ins cn fs, .ins cn gs] fun d _ => Q d ρ) : DO X F (binaryOp op) (.ins cn fs) (.ins cn gs) ρ Q := fun σ H v u ok r1 r2 => by
  have s1 := r1
  have s2 := r2
  obtain ⟨a, C1, dx, vs, rfl, c1, h1, _⟩ := Rep.insRef r1
  obtain ⟨b, C2, dy, us, rfl, c2, h2, _⟩ := Rep.insRef r2
  rw [hc] at c1 c2
  cases c1
  cases c2
  exact o_own O h1 h2 M hr (ofSp ok (.cons s1 (.cons s2 .nil)) q fun d outs hq v H' r kp => ⟨d, ρ, r, kp, hq⟩)
/-- a op i, an int -/
theorem do_ownI {op : Operator} {fo ro : Option Value} [f : Fit X F] (hc : F.cl.c cn = some C) (O : Ops X.K C) (M : MethOk X.prog X.w X.K X.mg X.base C (PySem.dunder op.info.2) k ps (toSp X.K X.w F.cl sp)) (hr : Room k X.A)
    (h0 : PySem.W.findIn X.K (.ref C) (dunderR op.info.2) = some none) (h1 : PySem.W.findIn X.K (.type "int") (PySem.dunder op.info.2) = some fo) (h2 : PySem.W.findIn X.K (.type "int") (dunderR op.info.2) = some ro) (h3 : PySem.W.subIn X.K (.type "int") (.ref C) = some false)
    (q : sp [.ins cn fs, .int i] fun d _ => Q d ρ) : DO X F (binaryOp op) (.ins cn fs) (.int i) ρ Q := fun σ H v u ok r1 r2 => by
  have s1 := r1
  obtain ⟨a, C1, dx, vs, rfl, c1, g1, _⟩ := Rep.insRef r1
  rw [hc] at c1
  cases c1
  rw [r2.intV]
  exact o_ownI O g1 M hr h0 h1 h2 h3 (ofSp ok (.cons s1 (.cons (.int _) .nil)) q fun d outs hq v H' r kp => ⟨d, ρ, r, kp, hq⟩)
theorem du_ownNeg [f : Fit X F] (hc : F.cl.c cn = some C) (M : MethOk X.prog X.w X.K X.mg X.base C "__neg__" k ps (toSp X.K X.w F.cl sp)) (hr : Room k X.A) (q : sp [.ins cn fs] fun d _ => Q d ρ) : DU X F (unaryOp .USub) (.ins cn fs) ρ Q := fun σ H v ok r1 => by
  have s1 := r1
  obtain ⟨a, C1, dx, vs, rfl, c1, g1, _⟩ := Rep.insRef r1
  rw [hc] at c1
  cases c1
  exact u_ownNeg g1 M hr (ofSp ok (.cons s1 .nil) q fun d outs hq v H' r kp => ⟨d, ρ, r, kp, hq⟩)
theorem du_ownInv [f : Fit X F] (hc : F.cl.c cn = some C) (M : MethOk X.prog X.w X.K X.mg X.base C "__invert__" k ps (toSp X.K X.w F.cl sp)) (hr : Room k X.A) (q : sp [.ins cn fs] fun d _ => Q d ρ) : DU X F (unaryOp .Invert) (.ins cn fs) ρ Q := fun σ H v ok r1 => by
  have s1 := r1
  obtain ⟨a, C1, dx, vs, rfl, c1, g1, _⟩ := Rep.insRef r1
  rw [hc] at c1
  cases c1
  exact u_ownInv g1 M hr (ofSp ok (.cons s1 .nil) q fun d outs hq v H' r kp => ⟨d, ρ, r, kp, hq⟩)
/-- a == b, a != b by the class's __eq__ -/
theorem dc_ownEq [f : Fit X F] (hc : F.cl.c cn = some C) (O : Ops X.K C) (M : MethOk X.prog X.w X.K X.mg X.base C "__eq__" k ps (toSp X.K X.w F.cl sp)) (hr : Room k X.A) (q : sp [.ins cn fs, .ins cn gs] fun d _ => Q d ρ) : DO X F (compareOp .Eq) (.ins cn fs) (.ins cn gs) ρ Q := fun σ H v u ok r1 r2 => by
  have s1 := r1
  have s2 := r2
  obtain ⟨a, C1, dx, vs, rfl, c1, h1, _⟩ := Rep.insRef r1
  obtain ⟨b, C2, dy, us, rfl, c2, h2, _⟩ := Rep.insRef r2
  rw [hc] at c1 c2
  cases c1
  cases c2
  exact c_ownEq O h1 h2 M hr (ofSp ok (.cons s1 (.cons s2 .nil)) q fun d outs hq v H' r kp => ⟨d, ρ, r, kp, hq⟩)
theorem dc_ownNe [f : Fit X F] (hc : F.cl.c cn = some C) (M : MethOk X.prog X.w X.K X.mg X.base C "__eq__" k ps (toSp X.K X.w F.cl sp)) (hr : Room (k + 1) X.A)
    (hn : PySem.W.findIn X.K (.ref C) "__ne__" = some (some (.builtin "object.__ne__"))) (ho : PySem.W.subIn X.K (.ref C) (.type "object") = some true)
    (q : sp [.ins cn fs, .ins cn gs] fun d _ => ∃ t, d = .bl t ∧ Q (.bl (!t)) ρ) : DO X F (compareOp .NotEq) (.ins cn fs) (.ins cn gs) ρ Q := fun σ H v u ok r1 r2 => by
  have s1 := r1
  have s2 := r2
  obtain ⟨a, C1, dx, vs, rfl, c1, h1, _⟩ := Rep.insRef r1
  obtain ⟨b, C2, dy, us, rfl, c2, h2, _⟩ := Rep.insRef r2
  rw [hc] at c1 c2
  cases c1
  cases c2
  refine c_ownNe h1 h2 M hr hn ho (ofSp ok (.cons s1 (.cons s2 .nil)) q fun d outs ⟨t, hd, hq⟩ v H' r kp => ?_)
  subst hd
  exact ⟨t, r.fz.2.blV, _, ρ, .rep r.ok (.bl _), kp, hq⟩
/-- x in a -/
theorem dc_ownIn {y : D} [f : Fit X F] (hc : F.cl.c cn = some C) (M : MethOk X.prog X.w X.K X.mg X.base C "__contains__" k ps (toSp X.K X.w F.cl sp)) (hr : Room k X.A) (q : sp [.ins cn fs, y] fun d _ => ∃ t, d = .bl t ∧ Q (.bl t) ρ) : DO X F (compareOp .In) y (.ins cn fs) ρ Q := fun σ H v u ok r1 r2 => by
  have s2 := r2
  obtain ⟨b, C2, dy, us, rfl, c2, h2, _⟩ := Rep.insRef r2
  rw [hc] at c2
  cases c2
  refine c_ownIn h2 M hr (ofSp ok (.cons s2 (.cons r1 .nil)) q fun d outs ⟨t, hd, hq⟩ v H' r kp => ?_)
  subst hd
  exact ⟨t, r.fz.2.blV, _, ρ, .rep r.ok (.bl _), kp, hq⟩
theorem dc_ownNotIn {y : D} [f : Fit X F] (hc : F.cl.c cn = some C) (M : MethOk X.prog X.w X.K X.mg X.base C "__contains__" k ps (toSp X.K X.w F.cl sp)) (hr : Room k X.A) (q : sp [.ins cn fs, y] fun d _ => ∃ t, d = .bl t ∧ Q (.bl (!t)) ρ) : DO X F (compareOp .NotIn) y (.ins cn fs) ρ Q := fun σ H v u ok r1 r2 => by
  have s2 := r2
  obtain ⟨b, C2, dy, us, rfl, c2, h2, _⟩ := Rep.insRef r2
  rw [hc] at c2
  cases c2
  refine c_ownNotIn h2 M hr (ofSp ok (.cons s2 (.cons r1 .nil)) q fun d outs ⟨t, hd, hq⟩ v H' r kp => ?_)
  subst hd
  exact ⟨t, r.fz.2.blV, _, ρ, .rep r.ok (.bl _), kp, hq⟩
theorem dc_ownLen [f : Fit X F] (hc : F.cl.c cn = some C) (M : MethOk X.prog X.w X.K X.mg X.base C "__len__" k ps (toSp X.K X.w F.cl sp)) (hr : Room (k + 1) X.A) (q : sp [.ins cn fs] fun d _ => ∃ n : Int, d = .int n ∧ (0 ≤ n ∧ n < 2 ^ 63) ∧ Q (.int n) ρ) : DC X F (.builtin "len") [.ins cn fs] ρ Q := fun σ H vs ok r => by
  cases r with
  | cons r1 t =>
    cases t
    have s1 := r1
    obtain ⟨a, C1, dx, vs, rfl, c1, g1, _⟩ := Rep.insRef r1
    rw [hc] at c1
    cases c1
    refine b_ownLen g1 M hr (ofSp ok (.cons s1 .nil) q fun d outs ⟨n, hd, hn, hq⟩ v H' r kp => ?_)
    subst hd
    exact ⟨n, r.fz.2.intV, hn, _, ρ, .rep r.ok (.int _), kp, hq⟩
theorem dc_ownStr [f : Fit X F] (hc : F.cl.c cn = some C) (M : MethOk X.prog X.w X.K X.mg X.base C "__str__" k ps (toSp X.K X.w F.cl sp)) (hr : Room (k + 2) X.A) (q : sp [.ins cn fs] fun d _ => ∃ z : Str, d = .str z ∧ Q (.str z) ρ) : DC X F (.type "str") [.ins cn fs] ρ Q := fun σ H vs ok r => by
  cases r with
  | cons r1 t =>
    cases t
    have s1 := r1
    obtain ⟨a, C1, dx, vs, rfl, c1, g1, _⟩ := Rep.insRef r1
    rw [hc] at c1
    cases c1
    refine b_ownStr g1 M hr (ofSp ok (.cons s1 .nil) q fun d outs ⟨n, hd, hq⟩ v H' r kp => ?_)
    subst hd
    exact ⟨n, r.fz.2.strV, _, ρ, .rep r.ok (.str _), kp, hq⟩
theorem dc_ownRepr [f : Fit X F] (hc : F.cl.c cn = some C) (M : MethOk X.prog X.w X.K X.mg X.base C "__repr__" k ps (toSp X.K X.w F.cl sp)) (hr : Room (k + 1) X.A) (q : sp [.ins cn fs] fun d _ => ∃ z : Str, d = .str z ∧ Q (.str z) ρ) : DC X F (.builtin "repr") [.ins cn fs] ρ Q := fun σ H vs ok r => by
  cases r with
  | cons r1 t =>
    cases t
    have s1 := r1
    obtain ⟨a, C1, dx, vs, rfl, c1, g1, _⟩ := Rep.insRef r1
    rw [hc] at c1
    cases c1
    refine b_ownRepr g1 M hr (ofSp ok (.cons s1 .nil) q fun d outs ⟨n, hd, hq⟩ v H' r kp => ?_)
    subst hd
    exact ⟨n, r.fz.2.strV, _, ρ, .rep r.ok (.str _), kp, hq⟩
/-- a.f, a property -/
theorem d_prop [f : Fit X F] (hc : F.cl.c cn = some C) (M : PropOk X.prog X.w X.K X.mg X.base C x k ps (toSp X.K X.w F.cl sp)) (c : Cls X.K C) (hr : Room (k + 1) X.A) (hab : attributeBase e x X.env (eval e X.env) = eval e X.env)
    (q : DE X F e ρ fun d ρ1 => ∃ fs, d = .ins cn fs ∧ sp [.ins cn fs] fun r _ => Q r ρ1) : DE X F (.Attribute e x pos) ρ Q := fun σ H ok => by
  refine e_propOk M c hr hab (de_run q ok fun v H1 d ρ1 ok1 r1 k1 ⟨fs, hd, q⟩ => ?_)
  subst hd
  have s1 := r1
  obtain ⟨a, C1, dx, vs, rfl, c1, g1, _⟩ := Rep.insRef r1
  rw [hc] at c1
  cases c1
  exact ⟨a, dx, vs, rfl, g1, ofSp ok1 (.cons s1 .nil) q fun d outs hq v H' r kp => ⟨d, ρ1, r, k1.trans kp, hq⟩⟩
/-- a.m(e, ..) -/
theorem d_meth {pl : Sem Bool} [f : Fit X F] (hc : F.cl.c cn = some C) (M : MethOk X.prog X.w X.K X.mg X.base C m k ps (toSp X.K X.w F.cl sp)) (c : Cls X.K C) (hr : Room k X.A)
    (hst : starEach (e :: es) X.env = (false, eval e X.env) :: starEach es X.env) (hpl : (backTo pos (starEach es X.env)).any (·.1) = false)
    (ht : eval (.Call (.Attribute o m apos) (e :: es) [] pos) X.env = (do let z ← eval o X.env; standAt apos.atName; let (y, first) ← holding [z] (getMethod z m pl); callWith pos y first (backTo pos (starEach (e :: es) X.env)) (backToKw pos (keywordEach [] X.env))))
    (q : DE X F o ρ fun d ρ1 => ∃ fs, d = .ins cn fs ∧ fs.lookup m = none ∧ DA X F (e :: es) ρ1 fun as ρ2 => ∃ ds, agV as = some ds ∧ sp (.ins cn fs :: ds) fun r _ => Q r ρ2) : DE X F (.Call (.Attribute o m apos) (e :: es) [] pos) ρ Q := fun σ H ok => by
  refine e_meth c M hr hst hpl ht (de_run q ok fun v H1 d ρ1 ok1 r1 k1 ⟨fs, hd, hm, q⟩ => ?_)
  subst hd
  have s1 := r1
  obtain ⟨a, C1, dx, vs, rfl, c1, g1, g2⟩ := Rep.insRef r1
  rw [hc] at c1
  cases c1
  refine ⟨a, dx, vs, rfl, g1, lookup_names g2 hm, ra_mono (q σ H1 ok1) fun us H2 ⟨as, ρ2, ok2, ps, k2, ds, e, q⟩ => ?_⟩
  exact ofSp ok2 (.cons (Rep.step k2.mut s1) (ps.vals e)) q fun d outs hq v H' r kp => ⟨d, ρ2, r, (k1.trans k2).trans kp, hq⟩
theorem d_meth0 {pl : Sem Bool} [f : Fit X F] (hc : F.cl.c cn = some C) (M : MethOk X.prog X.w X.K X.mg X.base C m k ps (toSp X.K X.w F.cl sp)) (c : Cls X.K C) (hr : Room k X.A)
    (ht : eval (.Call (.Attribute o m apos) [] [] pos) X.env = (do let z ← eval o X.env; standAt apos.atName; let (y, first) ← holding [z] (getMethod z m pl); callWith pos y first (backTo pos (starEach [] X.env)) (backToKw pos (keywordEach [] X.env))))
    (q : DE X F o ρ fun d ρ1 => ∃ fs, d = .ins cn fs ∧ fs.lookup m = none ∧ sp [.ins cn fs] fun r _ => Q r ρ1) : DE X F (.Call (.Attribute o m apos) [] [] pos) ρ Q := fun σ H ok => by
  refine e_meth0 c M hr ht (de_run q ok fun v H1 d ρ1 ok1 r1 k1 ⟨fs, hd, hm, q⟩ => ?_)
  subst hd
  have s1 := r1
  obtain ⟨a, C1, dx, vs, rfl, c1, g1, g2⟩ := Rep.insRef r1
  rw [hc] at c1
  cases c1
  exact ⟨a, dx, vs, rfl, g1, lookup_names g2 hm, ofSp ok1 (.cons s1 .nil) q fun d outs hq v H' r kp => ⟨d, ρ1, r, k1.trans kp, hq⟩⟩
/-- a.m(k=e) -/
theorem d_methK {kw : Str} {kpos : Pos} {pl : Sem Bool} [f : Fit X F] (hc : F.cl.c cn = some C) (c : Cls X.K C) (M : MethKOk X.prog X.w X.K X.mg X.base C m kw k ps (toSp X.K X.w F.cl sp)) (hr : Room k X.A)
    (ht : eval (.Call (.Attribute o m apos) [] [⟨some kw, e, kpos⟩] pos) X.env = (do let z ← eval o X.env; standAt apos.atName; let (y, first) ← holding [z] (getMethod z m pl); callWith pos y first (backTo pos (starEach [] X.env)) (backToKw pos (keywordEach [⟨some kw, e, kpos⟩] X.env))))
    (hall : ((backToKw pos (keywordEach [⟨some kw, e, kpos⟩] X.env)).all fun x => x.1.isSome) = true) (hks : (backToKw pos (keywordEach [⟨some kw, e, kpos⟩] X.env)).filterMap (fun x => x.1) = [kw]) (hpl : (((backTo pos (starEach [] X.env)).any fun x => x.1) || (backToKw pos (keywordEach [⟨some kw, e, kpos⟩] X.env)).any fun x => x.1.isNone) = false)
    (q : DE X F o ρ fun d ρ1 => ∃ fs, d = .ins cn fs ∧ fs.lookup m = none ∧ DE X F e ρ1 fun y ρ2 => sp [.ins cn fs, y.fz] fun r _ => Q r ρ2) : DE X F (.Call (.Attribute o m apos) [] [⟨some kw, e, kpos⟩] pos) ρ Q := fun σ H ok => by
  refine e_methK c M hr ht hall hks hpl (de_run q ok fun v H1 d ρ1 ok1 r1 k1 ⟨fs, hd, hm, q⟩ => ?_)
  subst hd
  have s1 := r1
  obtain ⟨a, C1, dx, vs, rfl, c1, g1, g2⟩ := Rep.insRef r1
  rw [hc] at c1
  cases c1
  refine ⟨a, dx, vs, rfl, g1, lookup_names g2 hm, de_run q ok1 fun u H2 y ρ2 ok2 r2 k2 q => ?_⟩
  exact ofSp ok2 (.cons (Rep.step k2.mut s1) (.cons r2 .nil)) q fun d outs hq v H' r kp => ⟨d, ρ2, r, (k1.trans k2).trans kp, hq⟩
/-- C(e, ..): a new object, by what its __init__ promises -/
structure DMake (X : Cx) (F : Fx) (x : Str) (k : Nat) (sp : DSp) : Prop where
  run : ∀ {e : Expr} {es : List Expr} {fp pos : Pos} {σ : St} {H : Hp} {ρ : En} {Q : DQ}, Ok F H σ ρ → Room k X.A → Gl X x → starEach (e :: es) X.env = (false, eval e X.env) :: starEach es X.env → (backTo pos (starEach es X.env)).any (·.1) = false →
    (RA X (e :: es) σ H fun vs H1 => ∃ ds ρ1, Ok F H1 σ ρ1 ∧ F.L (Av F σ ρ1) H1 vs ds ∧ Kp (Mut σ ρ) H (Mut σ ρ1) H1 ∧ sp ds fun d _ => Q d ρ1) →
    RE X (.Call (.Name x fp) (e :: es) [] pos) σ H fun v H' => ∃ d ρ', Res F H' σ v d ρ' ∧ Kp (Mut σ ρ) H (Mut σ ρ') H' ∧ Q d ρ'
theorem d_make (M : DMake X F x k sp) (hr : Room k X.A) (hg : Gl X x) (he : starEach (e :: es) X.env = (false, eval e X.env) :: starEach es X.env) (hpl : (backTo pos (starEach es X.env)).any (·.1) = false)
    (q : DA X F (e :: es) ρ fun as ρ1 => ∃ ds, agV as = some ds ∧ sp ds fun d _ => Q d ρ1) : DE X F (.Call (.Name x fp) (e :: es) [] pos) ρ Q := fun σ H ok =>
  M.run ok hr hg he hpl (ra_mono (q σ H ok) fun vs H1 ⟨as, ρ1, ok1, ps, k1, ds, e, q⟩ => ⟨ds, ρ1, ok1, ps.vals e, k1, q⟩)
end
end Dx

end
section -- Dn
set_option maxRecDepth 100000
set_option maxHeartbeats 4000000
/-! == of data, in. -/
namespace Dx
open PySem PySem.Spec L2 Sx
open PyProof.Rows hiding St
mutual
def D.dat : D → Option PyData
  | .non => some .none
  | .bl b => some (.bool b)
  | .int i => some (.int i)
  | .str x => some (.str x)
  | .tup xs => (datL xs).map .tuple
  | .lst xs => (datL xs).map .list
  | .scr xs => (datL xs).map .list
  | _ => none
def datL : List D → Option (List PyData)
  | [] => some []
  | d :: ds => match d.dat, datL ds with
    | some x, some xs => some (x :: xs)
    | _, _ => none
end
section
variable {K : PySem.W.Frag} {w : World} {cl : Nm} {O : Addr → Prop} {H : Hp}
mutual
theorem Rep.dp : ∀ {v : V} {d : D} {p : PyData}, Rep K w cl O H v d → d.dat = some p → Dp K H v p
  | _, _, _, .non, e => by simp [D.dat] at e; subst e; exact .non
  | _, _, _, .bl b, e => by simp [D.dat] at e; subst e; exact .bl b
  | _, _, _, .int i, e => by simp [D.dat] at e; subst e; exact .int i
  | _, _, _, .str x, e => by simp [D.dat] at e; subst e; exact .str x
  | _, _, _, .ty x, e => by simp [D.dat] at e
  | _, _, _, .gl h, e => by simp [D.dat] at e
  | _, _, _, .fn h, e => by simp [D.dat] at e
  | _, _, _, .tup h n r, e => by
    simp only [D.dat] at e
    obtain ⟨ps, e1, rfl⟩ := Option.map_eq_some_iff.mp e
    exact .tup (.inl h) (RepL.dp r e1)
  | _, _, _, .tupK h r, e => by
    simp only [D.dat] at e
    obtain ⟨ps, e1, rfl⟩ := Option.map_eq_some_iff.mp e
    exact .tup (h H) (RepL.dp r e1)
  | _, _, _, .lst h n r, e => by
    simp only [D.dat] at e
    obtain ⟨ps, e1, rfl⟩ := Option.map_eq_some_iff.mp e
    exact .lst (.inl (.inl h)) (RepL.dp r e1)
  | _, _, _, .scr h n r, e => by
    simp only [D.dat] at e
    obtain ⟨ps, e1, rfl⟩ := Option.map_eq_some_iff.mp e
    exact .lst (.inl h) (RepL.dp r e1)
  | _, _, _, .scrK h r, e => by
    simp only [D.dat] at e
    obtain ⟨ps, e1, rfl⟩ := Option.map_eq_some_iff.mp e
    exact .lst (h H) (RepL.dp r e1)
  | _, _, _, .set _ _ _ _, e => by simp [D.dat] at e
  | _, _, _, .dct _ _ _ _, e => by simp [D.dat] at e
  | _, _, _, .ins _ _ _ _ _ _, e => by simp [D.dat] at e
theorem RepL.dp : ∀ {vs : List V} {ds : List D} {ps : List PyData}, RepL K w cl O H vs ds → datL ds = some ps → DpAll K H vs ps
  | _, _, _, .nil, e => by simp [datL] at e; subst e; exact .nil
  | _, _, _, .cons r t, e => by
    simp only [datL] at e
    split at e
    · rename_i x xs e1 e2
      cases e
      exact .cons (Rep.dp r e1) (RepL.dp t e2)
    · cases e
end
end
section
variable {X : Cx} {F : Fx} {ρ : En} {Q : DQ} {d e : D} {p q : PyData} {k : Nat} {i : Int} {ns : List Int}
theorem dc_eqD [f : Fit X F] (hr : Room k X.A) (h1 : d.dat = some p) (h2 : e.dat = some q) (s1 : SeqAt.shaped p = true) (s2 : SeqAt.shaped q = true) (z : Q (.bl (PyData.eqv p q)) ρ) : DO X F (compareOp .Eq) d e ρ Q := fun σ H v u ok r1 r2 => by
  refine c_eqD hr ?_ ?_ s1 s2 (res_same ok (.bl _) z)
  · rw [← f.K]; exact Rep.dp r1 h1
  · rw [← f.K]; exact Rep.dp r2 h2
theorem dc_neD [f : Fit X F] (hr : Room k X.A) (h1 : d.dat = some p) (h2 : e.dat = some q) (s1 : SeqAt.shaped p = true) (s2 : SeqAt.shaped q = true) (z : Q (.bl (!PyData.eqv p q)) ρ) : DO X F (compareOp .NotEq) d e ρ Q := fun σ H v u ok r1 r2 => by
  refine c_neD hr ?_ ?_ s1 s2 (res_same ok (.bl _) z)
  · rw [← f.K]; exact Rep.dp r1 h1
  · rw [← f.K]; exact Rep.dp r2 h2
theorem eqv_self {p : PyData} (s : SeqAt.shaped p = true) : PyData.eqv p p = true := SeqAt.eqv_refl p (by unfold SeqAt.shaped at s; simp at s; exact s.1)
theorem dc_eqSame [f : Fit X F] (hr : Room k X.A) (he : d = e) (h1 : d.dat = some p) (s1 : SeqAt.shaped p = true) (z : Q (.bl true) ρ) : DO X F (compareOp .Eq) d e ρ Q := by
  subst he
  refine dc_eqD hr h1 h1 s1 s1 ?_
  rw [eqv_self s1]
  exact z
theorem dc_neSame [f : Fit X F] (hr : Room k X.A) (he : d = e) (h1 : d.dat = some p) (s1 : SeqAt.shaped p = true) (z : Q (.bl false) ρ) : DO X F (compareOp .NotEq) d e ρ Q := by
  subst he
  refine dc_neD hr h1 h1 s1 s1 ?_
  rw [eqv_self s1]
  exact z
theorem datL_ints : ∀ ns : List Int, datL (ns.map D.int) = some (ns.map PyData.int)
  | [] => rfl
  | n :: ns => by simp [datL, D.dat, datL_ints ns]
theorem shaped_ints (ns : List Int) : PyData.canLayAll0 (ns.map PyData.int) = true ∧ PyData.depthAll (ns.map PyData.int) ≤ 1 := by
  induction ns with
  | nil => simp [PyData.canLayAll0, PyData.depthAll]
  | cons k r ih => simp [PyData.canLayAll0, PyData.depthAll, PyData.canLay0, PyData.depth] at ih ⊢; omega
/-- rows of rows of ints -/
theorem datL_rows : ∀ rs : List (List Int), datL (rs.map fun r => D.tup (r.map D.int)) = some (rs.map fun r => PyData.tuple (r.map PyData.int))
  | [] => rfl
  | r :: rs => by simp [datL, D.dat, datL_ints, datL_rows rs]
theorem shaped_rowsL (rs : List (List Int)) : SeqAt.shaped (.list (rs.map fun r => PyData.tuple (r.map PyData.int))) = true := by
  have h : PyData.canLayAll0 (rs.map fun r => PyData.tuple (r.map PyData.int)) = true ∧ PyData.depthAll (rs.map fun r => PyData.tuple (r.map PyData.int)) ≤ 2 := by
    induction rs with
    | nil => simp [PyData.canLayAll0, PyData.depthAll]
    | cons r rs ih =>
      have h1 := shaped_ints r
      simp [PyData.canLayAll0, PyData.depthAll, PyData.canLay0, PyData.depth] at ih h1 ⊢
      exact ⟨⟨h1.1, ih.1⟩, by have := h1.2; have := ih.2; omega⟩
  unfold SeqAt.shaped
  simp [PyData.canLay0, PyData.depth]
  exact ⟨h.1, by have := h.2; omega⟩
theorem shaped_tup (ns : List Int) : SeqAt.shaped (.tuple (ns.map PyData.int)) = true := by
  have h := shaped_ints ns
  unfold SeqAt.shaped
  simp [PyData.canLay0, PyData.depth]
  exact ⟨h.1, by have := h.2; omega⟩
/-- i in a tuple of ints -/
theorem dc_inT [f : Fit X F] (q : Q (.bl (decide (i ∈ ns))) ρ) : DO X F (compareOp .In) (.int i) (.tup (ns.map D.int)) ρ Q := fun σ H v u ok r1 r2 => by
  rw [r1.intV]
  obtain ⟨a, rfl, h⟩ := tupInts r2
  exact c_inT (by rw [← f.K]; exact h) (res_same ok (.bl _) q)
theorem dc_notInT [f : Fit X F] (q : Q (.bl (!decide (i ∈ ns))) ρ) : DO X F (compareOp .NotIn) (.int i) (.tup (ns.map D.int)) ρ Q := fun σ H v u ok r1 r2 => by
  rw [r1.intV]
  obtain ⟨a, rfl, h⟩ := tupInts r2
  exact c_notInT (by rw [← f.K]; exact h) (res_same ok (.bl _) q)
end
end Dx

end
section -- Dq
set_option maxRecDepth 100000
set_option maxHeartbeats 4000000
/-! Comprehensions that map, that choose. -/
namespace Dx
open PySem PySem.Spec L2 Sx
open PyProof.Rows hiding St
section
variable {X : Cx} {F : Fx} {elt c : Expr} {ρ ρ' : En} {kp : Pos} {k : Str} {n : Nat} {scope : Scope} {xs : List D} {K : List D → En → Prop}
/-- [f(k) for k in xs] -/
theorem dlc_map (f : D → D) (hN : X.N.Nodup) (hk : X.N[n]? = some k) (hx : InB X scope fun Y => Loc Y.env.scope k) (hf : InB X scope fun Y => Y.fn k = true ∨ Y.env.scope.names.lookup k = some .local) (hw : ρ.set n none = ρ) (hl : xs.length ≤ 100000)
    (h : ∀ d, d ∈ xs → ∀ Q : DQ, Q (f d) (ρ.set n (some d)) → InB X scope fun Y => DE Y F elt (ρ.set n (some d)) Q) (q : K (xs.map fun d => (f d).fz) ρ) : DLc X F scope [n] (.Name k kp) [] elt xs [] ρ K := by
  refine dlc_inv (fun m acc ρ' => acc = (xs.take m).map (fun d => (f d).fz) ∧ ρ' = ρ) ⟨rfl, rfl⟩ (fun m d acc ρ1 hd ⟨e1, e2⟩ => ?_) (fun acc ρ1 ⟨e1, e2⟩ => by rw [e1, e2, List.take_length]; exact q)
  subst e1
  subst e2
  have hm : d ∈ xs := List.mem_of_getElem? hd
  refine turn0 hN hk hx hf (ρ' := ρ1.set n (some d)) ?_ (iteT ?_)
  · show (ρ1.set n none).set n (some d) = _
    rw [List.set_set]
  · refine h d hm _ ⟨?_, ?_, ?_⟩
    · rw [List.length_map]
      exact Nat.lt_of_le_of_lt (Nat.le_trans (List.length_take_le' _ _) hl) (by decide)
    · rw [List.take_add_one, hd, List.map_append]
      rfl
    · show (ρ1.set n (some d)).set n none = ρ1
      rw [List.set_set, hw]
/-- [f(k) for k in xs if p(k)] -/
theorem dlc_mf (p : D → Bool) (f : D → D) (hN : X.N.Nodup) (hk : X.N[n]? = some k) (hx : InB X scope fun Y => Loc Y.env.scope k) (hf : InB X scope fun Y => Y.fn k = true ∨ Y.env.scope.names.lookup k = some .local) (hw : ρ.set n none = ρ) (hl : xs.length ≤ 100000)
    (h1 : ∀ d, d ∈ xs → ∀ Q : Bool → En → Prop, Q (p d) (ρ.set n (some d)) → InB X scope fun Y => DT Y F c (ρ.set n (some d)) Q)
    (h : ∀ d, d ∈ xs → ∀ Q : DQ, Q (f d) (ρ.set n (some d)) → InB X scope fun Y => DE Y F elt (ρ.set n (some d)) Q) (q : K ((xs.filter p).map fun d => (f d).fz) ρ) : DLc X F scope [n] (.Name k kp) [c] elt xs [] ρ K := by
  refine dlc_inv (fun m acc ρ' => acc = ((xs.take m).filter p).map (fun d => (f d).fz) ∧ ρ' = ρ) ⟨rfl, rfl⟩ (fun m d acc ρ1 hd ⟨e1, e2⟩ => ?_) (fun acc ρ1 ⟨e1, e2⟩ => by rw [e1, e2, List.take_length]; exact q)
  subst e1
  subst e2
  have hm : d ∈ xs := List.mem_of_getElem? hd
  have hb : (ρ1.set n (some d)).set n none = ρ1 := by rw [List.set_set, hw]
  refine turn1 hN hk hx hf (ρ' := ρ1.set n (some d)) ?_ (h1 d hm _ ?_)
  · show (ρ1.set n none).set n (some d) = _
    rw [List.set_set]
  · cases hp : p d with
    | true =>
      refine iteT ?_
      refine h d hm _ ⟨?_, ?_, hb⟩
      · rw [List.length_map]
        exact Nat.lt_of_le_of_lt (Nat.le_trans (List.length_filter_le _ _) (Nat.le_trans (List.length_take_le' _ _) hl)) (by decide)
      · rw [List.take_add_one, hd, List.filter_append, List.map_append]
        simp [hp]
    | false =>
      refine iteF ⟨?_, hb⟩
      rw [List.take_add_one, hd, List.filter_append, List.map_append]
      simp [hp]
end
section
variable {X : Cx} {F : Fx} {a b c : Expr} {ρ : En} {E : DEnds} {x y z : Str} {px py pz pt pos pt2 : Pos} {kt k2 : Nat}
/-- x, y = a, b, stored one by one -/
theorem ds_par (hc : X.calm = true) (hN : X.N.Nodup) (hi : X.N.contains x = true) (hj : X.N.contains y = true) (hxy : x ≠ y) (hx : X.env.scope.names.lookup x = some .local) (hy : X.env.scope.names.lookup y = some .local)
    (hw : swappedStores [.Tuple [.Name x px, .Name y py] kt pt] (.Tuple [a, b] k2 pt2) X.env = pure (some [x, y])) (hs : swapsWithSole [.Tuple [.Name x px, .Name y py] kt pt] (.Tuple [a, b] k2 pt2) pos.line X.env = pure false)
    (q : DA X F [a, b] ρ fun as ρ1 => ∃ u v, agV as = some [u, v] ∧ E.nx (setE X.N (setE X.N ρ1 x (some u)) y (some v))) : DS X F (.Assign [.Tuple [.Name x px, .Name y py] kt pt] (.Tuple [a, b] k2 pt2) pos) E ρ := fun σ H ok => by
  obtain ⟨i, h1⟩ := idx_of hi
  obtain ⟨j, h2⟩ := idx_of hj
  refine s_par (pz := px) hc hN hi hj hxy hx hy hw hs (ra_mono (q σ H ok) fun vs H1 ⟨as, ρ1, ok1, ps, k1, u, v, e, q⟩ => ?_)
  have r := ps.vals e
  rw [setE_eq h1 hN, setE_eq h2 hN] at q
  cases r with
  | cons r1 r =>
  cases r with
  | cons r2 r =>
  cases r
  refine ⟨_, _, rfl, ?_⟩
  rw [setN_eq h1 hN, setN_eq h2 hN]
  exact ⟨_, (ok1.set r1).set (Rep.step (Kp.set r1) r2), q⟩
theorem ds_par3 (hc : X.calm = true) (hN : X.N.Nodup) (hi : X.N.contains x = true) (hj : X.N.contains y = true) (hl : X.N.contains z = true) (hxy : x ≠ y) (hxz : x ≠ z) (hyz : y ≠ z) (hx : X.env.scope.names.lookup x = some .local) (hy : X.env.scope.names.lookup y = some .local) (hz : X.env.scope.names.lookup z = some .local)
    (hw : swappedStores [.Tuple [.Name x px, .Name y py, .Name z pz] kt pt] (.Tuple [a, b, c] k2 pt2) X.env = pure (some [x, y, z])) (hs : swapsWithSole [.Tuple [.Name x px, .Name y py, .Name z pz] kt pt] (.Tuple [a, b, c] k2 pt2) pos.line X.env = pure false)
    (q : DA X F [a, b, c] ρ fun as ρ1 => ∃ u v w, agV as = some [u, v, w] ∧ E.nx (setE X.N (setE X.N (setE X.N ρ1 x (some u)) y (some v)) z (some w))) : DS X F (.Assign [.Tuple [.Name x px, .Name y py, .Name z pz] kt pt] (.Tuple [a, b, c] k2 pt2) pos) E ρ := fun σ H ok => by
  obtain ⟨i, h1⟩ := idx_of hi
  obtain ⟨j, h2⟩ := idx_of hj
  obtain ⟨k, h3⟩ := idx_of hl
  refine s_par3 hc hN hi hj hl hxy hxz hyz hx hy hz hw hs (ra_mono (q σ H ok) fun vs H1 ⟨as, ρ1, ok1, ps, k1, u, v, w, e, q⟩ => ?_)
  have r := ps.vals e
  rw [setE_eq h1 hN, setE_eq h2 hN, setE_eq h3 hN] at q
  cases r with
  | cons r1 r =>
  cases r with
  | cons r2 r =>
  cases r with
  | cons r3 r =>
  cases r
  refine ⟨_, _, _, rfl, ?_⟩
  rw [setN_eq h1 hN, setN_eq h2 hN, setN_eq h3 hN]
  have s2 := Rep.step (Kp.set (k := i) r1) r2
  exact ⟨_, ((ok1.set r1).set s2).set (Rep.step (Kp.set s2) (Rep.step (Kp.set r1) r3)), q⟩
theorem exPar {as : List Ag} {u v : D} {A : D → D → Prop} (h : agV as = some [u, v]) (q : A u v) : ∃ u v, agV as = some [u, v] ∧ A u v := ⟨u, v, h, q⟩
theorem exPar3 {as : List Ag} {u v w : D} {A : D → D → D → Prop} (h : agV as = some [u, v, w]) (q : A u v w) : ∃ u v w, agV as = some [u, v, w] ∧ A u v w := ⟨u, v, w, h, q⟩
theorem brJ {k : Bool} {Q : DQ} (R : DQ) (h1 : k = true → DE X F a ρ R) (h2 : k = false → DE X F b ρ R) (q : ∀ d ρ', R d ρ' → Q d ρ') : if k = true then DE X F a ρ Q else DE X F b ρ Q := by
  cases k with
  | true => exact iteT ((h1 rfl).mono q)
  | false => exact iteF ((h2 rfl).mono q)
theorem dss_mono {sts : List Stmt} {E' : DEnds} (h : DSs X F sts E' ρ) (h1 : ∀ ρ, E'.nx ρ → E.nx ρ) (h2 : ∀ d ρ, E'.rt d ρ → E.rt d ρ) (h3 : ∀ ρ, E'.bk ρ → E.bk ρ) (h4 : ∀ ρ, E'.ct ρ → E.ct ρ) : DSs X F sts E ρ := fun σ H ok =>
  rsx_mono (h σ H ok) (fun σ H ⟨ρ, ok, q⟩ => ⟨ρ, ok, h1 ρ q⟩) (fun v H ⟨σ, d, ρ, r, q⟩ => ⟨σ, d, ρ, r, h2 d ρ q⟩) (fun σ H ⟨ρ, ok, q⟩ => ⟨ρ, ok, h3 ρ q⟩) (fun σ H ⟨ρ, ok, q⟩ => ⟨ρ, ok, h4 ρ q⟩)
theorem brJS {k : Bool} {A B : List Stmt} (M : En → Prop) (h1 : k = true → DSs X F A ⟨M, E.rt, E.bk, E.ct⟩ ρ) (h2 : k = false → DSs X F B ⟨M, E.rt, E.bk, E.ct⟩ ρ) (q : ∀ ρ', M ρ' → E.nx ρ') : if k = true then DSs X F A E ρ else DSs X F B E ρ := by
  cases k with
  | true => exact iteT (dss_mono (h1 rfl) q (fun _ _ h => h) (fun _ h => h) (fun _ h => h))
  | false => exact iteF (dss_mono (h2 rfl) q (fun _ _ h => h) (fun _ h => h) (fun _ h => h))
end
section
variable {X : Cx} {F : Fx} {e : Expr} {ρ : En} {σ : St} {H H' : Hp} {v : V} {d : D} {a : Addr} {Q : DQ}
/-- behind a call that was lent a new list -/
theorem ret_new {outs : List MV} {t : Option Addr} (ok : Ok (F.out a) H σ ρ) (h0 : F.H0 a = none) (no : ¬ F.Out a) (nb : ¬ F.B a) (R : Ret F.K F.w F.cl (Av (F.out a) σ ρ) H (some a) outs v H' d t) : Res F H' σ v d ρ ∧ Kp (fun b => Mut σ ρ b ∨ b = a) H (fun b => Mut σ ρ b ∨ b = a) H' := by
  have kpD : Kp (fun b => Mut σ ρ b ∨ b = a) H (fun b => Mut σ ρ b ∨ b = a) H' := ⟨fun b o h n => R.keep b o h fun e => n (.inr (Option.some.inj e).symm), fun b o h n q => n q⟩
  have tn : ∀ c, t = some c → H c = none := fun c h => by obtain ⟨_, _, _, _, h, _⟩ := R.new c h; exact h
  refine ⟨?_, kpD⟩
  have key : ∀ (F' : Fx), Like F' F → F'.held = F.held → (∀ b, F'.Out b ↔ (F.Out b ∨ t = some b)) → (∀ b, t = some b → Ch H' b) → Ok F' H' σ ρ := by
    intro F' L hh hO ht
    have kpF : Kp (Av (F.out a) σ ρ) H (Av F' σ ρ) H' := ⟨fun b o h n => R.keep b o h fun e => n (.inl (.inr (Option.some.inj e).symm)), fun b o h n q => by
      rcases q with q | q
      · rcases (hO b).mp q with q | q
        · exact n (.inl (.inl q))
        · rw [tn b q] at h; cases h
      · exact n (.inr q)⟩
    exact {
      len := ok.len
      slot := fun j x hx => by
        obtain ⟨w, e1, e2⟩ := ok.slot j x hx
        refine ⟨w, e1, ?_⟩
        cases e2 with
        | own h n o r => exact .own (R.keep _ _ h fun e => o (.inr (Option.some.inj e).symm)) (by rw [L.H0]; exact n) (fun q => by
            rcases (hO _).mp q with q | q
            · exact o (.inl q)
            · rw [tn _ q] at h; cases h) (L.M (MRep.step r kpF))
        | bor h n r => exact .bor (R.keep _ _ h fun e => nb (by rw [Option.some.inj e]; exact n)) (by rw [L.B]; exact n) (L.M (MRep.step r kpF))
        | rep r => exact .rep (L.R (Rep.step kpF r))
      dist := ok.dist
      keep := fun b o h n => by
        rw [L.H0] at h
        rw [L.B] at n
        exact R.keep b o (ok.keep b o h n) fun e => by rw [← Option.some.inj e, h0] at h; cases h
      out := fun b q => by
        rcases (hO b).mp q with q | q
        · exact R.alloc b (.inl (.inl q))
        · exact ht b q
      bo := fun b q => by
        rw [L.B] at q
        rcases ok.bo b q with h | h
        · exact (hO b).mpr (.inl h)
        · subst h; exact (nb q).elim
      held := fun q hq => by
        rw [hh] at hq
        exact q.st _ _ _ _ (ok.held q hq) kpF }
  cases ht : t with
  | none =>
    subst ht
    have okF := key F ⟨rfl, rfl, rfl, rfl, rfl⟩ rfl (fun b => ⟨fun h => .inl h, fun h => by rcases h with h | h; exact h; cases h⟩) (fun b h => by cases h)
    exact .rep okF (Rep.step (.weak fun b q => by
      rcases q with q | q
      · exact .inl (.inl q)
      · exact .inr q) (R.res rfl))
  | some c =>
    subst ht
    obtain ⟨us, ds, rfl, rfl, hc, hl, r⟩ := R.new c rfl
    have okF := key (F.out c) .out rfl (fun b => ⟨fun h => by rcases h with h | h; exact .inl h; subst h; exact .inr rfl, fun h => by rcases h with h | h; exact .inl h; cases h; exact .inr rfl⟩) (fun b h => by cases h; exact ⟨_, hl, r.chg⟩)
    refine .own hl (ok.n0 hc) (fun q => ok.navn hc (.inl (.inl q))) (fun q => ok.navn hc (.inl (ok.bo c q))) (fun q => ok.navn hc (.inr q)) okF (MRep.step r (.weak fun b q => ?_))
    rcases q with (q | q) | q
    · exact .inl (.inl (.inl q))
    · subst q; exact .inr rfl
    · exact .inl (.inr q)
/-- f(g(e, ..), k, ..): the new thing that g gives is lent -/
theorem d_call2 {sp sp2 : DSp} {k k2 : Nat} {ps ps2 : List Str} {x y : Str} {fp fp2 pos pos2 : Pos} {es ks : List Expr} [f : Fit X F] (C : Callable X.prog X.w X.K X.mg X.base x k ps (toSp X.K X.w F.cl sp)) (C2 : Callable X.prog X.w X.K X.mg X.base y k2 ps2 (toSp X.K X.w F.cl sp2)) (hr : Room k X.A) (hr2 : Room k2 X.A) (hg : Gl X x) (hg2 : Gl X y) (hd : (x == ("__debug__" : Str)) = false) (hd2 : (y == ("__debug__" : Str)) = false)
    (he : starEach (.Call (.Name y fp2) (e :: es) [] pos2 :: ks) X.env = (false, eval (.Call (.Name y fp2) (e :: es) [] pos2) X.env) :: starEach ks X.env) (he2 : starEach (e :: es) X.env = (false, eval e X.env) :: starEach es X.env) (hpl : (backTo pos (starEach ks X.env)).any (·.1) = false) (hpl2 : (backTo pos2 (starEach es X.env)).any (·.1) = false)
    (q : DA X F (e :: es) ρ fun as ρ1 => ∃ ds l, Bnd ρ1 as ds l ∧ sp2 ds fun d outs => ∃ m, d = .own m ∧ ∀ c, DA X (F.out c) ks (putOut ρ1 l outs) fun as ρ2 => ∃ us, agV as = some us ∧ sp (.bor m :: us) fun r _ => Q r ρ2) : DE X F (.Call (.Name x fp) (.Call (.Name y fp2) (e :: es) [] pos2 :: ks) [] pos) ρ Q := fun σ H ok => by
  refine e_call C hr hg hd he hpl (a_cons he (e_call C2 hr2 hg2 hd2 he2 hpl2 (ra_mono (q σ H ok) fun vs H1 ⟨as, ρ1, ok1, ps, k1, ds, l, b, q⟩ => ?_)))
  obtain ⟨ba, a1, a2, a3⟩ := b.args ok1 ps
  refine ⟨ds, Av F σ ρ1, ba, _, fun b q => ok1.av q, by rw [f.K, f.w] at a1; exact a1, q, fun d outs ⟨m, hm, hq⟩ v H2 t R => ?_⟩
  rw [← f.K, ← f.w] at R
  obtain ⟨r1, r2⟩ := ret_res ok1 a2 a3 R
  subst hm
  cases t with
  | none => exact (R.res rfl).noOwn.elim
  | some a =>
    obtain ⟨us, ds', hv, hd', hfree, hl, rl⟩ := R.new a rfl
    subst hv
    cases hd'
    cases r1 with
    | rep ok r => exact r.noOwn.elim
    | own ha h0 no nb nm ok2 rl2 =>
      refine ra_mono (hq a σ H2 ok2) fun vs2 H3 ⟨as2, ρ2, ok3, ps2, k3, us2, e2, q2⟩ => ?_
      have hm3 : ¬ Mut σ ρ2 a := k3.none a _ ha nm
      have ha3 := k3.keep a _ ha nm
      have kA : Kp (Av (F.out a) σ (putOut ρ1 l outs)) H2 (Av (F.out a) σ ρ2) H3 := k3.mut
      refine ⟨.bor m :: us2, Av (F.out a) σ ρ2, some a, _, fun b h => ok3.av h, .bor (.inl (.inr rfl)) ha3 (by rw [← f.K, ← f.w]; exact MRep.step rl2 kA) (by rw [← f.K, ← f.w]; exact ArgsR.of (ps2.vals e2)), q2, fun d outs2 hq v H' t R2 => ?_⟩
      rw [← f.K, ← f.w] at R2
      obtain ⟨r3, r4⟩ := ret_new ok3 h0 no nb R2
      have kk := (k1.trans r2).trans k3
      refine ⟨d, _, r3, ⟨fun b o h n => ?_, fun b o h n m => kk.none b o h n m⟩, hq⟩
      have h1 := k1.keep b o h n
      have hne : b ≠ a := fun e => by rw [e, hfree] at h1; cases h1
      exact r4.keep b o (kk.keep b o h n) (fun q => by
        rcases q with q | q
        · exact kk.none b o h n q
        · exact hne q)
end
end Dx

end
section -- Dp
set_option maxRecDepth 100000
set_option maxHeartbeats 4000000
/-! x = [..], a comprehension stored at once in a local name. -/
namespace Dx
open PySem PySem.Spec L2 Sx
open PyProof.Rows hiding St
section
variable {X : Cx} {F : Fx} {e a b c l o tg iter elt : Expr} {es ifs : List Expr} {st : Stmt} {body : List Stmt} {ρ ρ' ρ1 : En} {σ : St} {H H' : Hp} {pos p pos' apos np fp p' : Pos} {x : Str} {d d0 : D} {v u : V} {i j : Int} {E : DEnds} {Q : DQ} {QB : Bool → En → Prop} {K : List D → En → Prop}
theorem lcR {scope : Scope} {vs : List Nat} {R : VK} {J : It} {H1 : Hp} {hs : List HF} {ds : List D} (ok0 : Ok F H σ ρ) (ok1 : Ok (F.also hs) H1 σ ρ1) (k1 : Kp (Mut σ ρ) H (Mut σ ρ1) H1) (it : DIt hs F J ds)
    (q : ∀ D', DLc X ((F.also hs).out D') scope vs tg ifs elt ds [] ρ1 fun acc ρ2 => Q (.own (.lst acc)) ρ2) (hR : ∀ v H2 d ρ', Res F H2 σ v d ρ' → Kp (Mut σ ρ) H (Mut σ ρ') H2 → Q d ρ' → R v H2) : LcJ X scope tg ifs elt σ vs J H1 R := by
  intro D' hD
  have q := q D'
  have L2 : Like ((F.also hs).out D') F := ⟨rfl, rfl, rfl, rfl, rfl⟩
  have hO : ((F.also hs).out D').Out D' := .inr rfl
  have nb : ¬ ((F.also hs).out D').B D' := fun h => ok1.navn hD (.inl (ok1.bo D' h))
  have h0 : ((F.also hs).out D').H0 D' = none := ok1.n0 hD
  have no : ¬ F.Out D' := fun h => ok1.navn hD (.inl h)
  refine ⟨fun i m H => m = ds.length - i ∧ i ≤ ds.length ∧ ∃ ρ accV acc, Ok ((F.also hs).out D') H σ ρ ∧ Kp (fun b => Mut σ ρ1 b ∨ b = D') (upd H1 D' (.lst [])) (fun b => Mut σ ρ b ∨ b = D') H ∧ H D' = some (.lst accV) ∧ F.L (Av ((F.also hs).out D') σ ρ) H accV acc ∧
    DLc X ((F.also hs).out D') scope vs tg ifs elt (ds.drop i) acc ρ fun acc ρ2 => Q (.own (.lst acc)) ρ2, ⟨_, rfl, Nat.zero_le _, ρ1, [], [], ok1.addOut hD, .refl, upd_same, .nil, q⟩, ?_⟩
  rintro i m H ⟨rfl, hi, ρ, accV, acc, ok, kp, ha, ra, q⟩
  obtain ⟨j1, j2⟩ := it ((F.also hs).out D') H σ ρ i L2 (fun p hp => List.mem_append_left _ hp) ok
  by_cases hlt : i < ds.length
  · have hg : ds[i]? = some ds[i] := List.getElem?_eq_getElem hlt
    obtain ⟨g, y⟩ := j2 _ hg
    rw [drop_get hg] at q
    refine .inr ⟨g, fun H => ∃ ρ accV acc, Ok ((F.also hs).out D') H σ ρ ∧ Kp (fun b => Mut σ ρ1 b ∨ b = D') (upd H1 D' (.lst [])) (fun b => Mut σ ρ b ∨ b = D') H ∧ H D' = some (.lst accV) ∧ F.L (Av ((F.also hs).out D') σ ρ) H accV acc ∧
      DLc X ((F.also hs).out D') scope vs tg ifs elt (ds.drop (i + 1)) acc ρ fun acc ρ2 => Q (.own (.lst acc)) ρ2, fun H' h => ⟨_, by omega, rfl, hlt, h⟩, fun x H2 hy => ?_⟩
    obtain ⟨y1, y2⟩ := y x H2 hy
    have ok2 := ok.grow y1
    have kg : Kp (Mut σ ρ) H (Mut σ ρ) H2 := .new y1
    obtain ⟨okw, kw⟩ := ok2.wiped (σ' := wipe σ vs) (vs := vs) (fun j n => wipe_get n) (wipe_length _ _)
    intro s H0 C cl fp
    refine rg_mono (q s H0 C cl fp _ _ _ okw (Rep.step kw.mut2 y2)) fun σ3 H3 ⟨hσ, hw, ρ3, ok3, k3, q3⟩ => ?_
    have hw' : wipe σ3 vs = wipe σ vs := hw.trans (wipe_wipe fun _ h => h)
    have hσ' : ∀ j, j ∉ vs → σ[j]? = σ3[j]? := fun j n => by rw [hσ j n, wipe_get n]
    have hlen : σ.length = σ3.length := by
      have := congrArg List.length hw'
      rw [wipe_length, wipe_length] at this
      exact this.symm
    refine ⟨hw', dte_run q3 ok3 fun b H4 ρ4 ok4 k4 q4 => ?_⟩
    have ka : Kp (Mut σ ρ) H (Mut σ3 ρ4) H4 := ((kg.trans kw).trans k3).trans k4
    cases b with
    | true =>
      refine iteT ?_
      have q4 : InB X scope fun Y => DE Y ((F.also hs).out D') elt ρ4 fun y ρ3 => acc.length < sizeLine ∧ DLc X ((F.also hs).out D') scope vs tg ifs elt (ds.drop (i + 1)) (acc ++ [y.fz]) (wipeE ρ3 vs) fun acc ρ2 => Q (.own (.lst acc)) ρ2 := q4
      intro s H0 C cl fp
      refine de_run (q4 s H0 C cl fp) ok4 fun v H5 y ρ5 ok5 r5 k5 ⟨hz, q5⟩ => ?_
      have kb : Kp (Mut σ ρ) H (Mut σ3 ρ5) H5 := ka.trans k5
      have ha5 : H5 D' = some (.lst accV) := kb.keep _ _ ha (ok.notMut hO nb)
      have ra5 : F.L (Av ((F.also hs).out D') σ3 ρ5) H5 accV acc := RepL.step kb.mut2 ra
      refine ⟨accV, ha5, by rw [ra5.len]; exact hz, ?_⟩
      obtain ⟨ok6, k6⟩ := ok5.updOut (u := .lst (accV ++ [v])) hO nb h0
      obtain ⟨ok7, k7⟩ := ok6.wiped (σ' := σ) (vs := vs) hσ' hlen
      refine ⟨_, accV ++ [v], acc ++ [y.fz], ok7, ?_, upd_same, ?_, q5⟩
      · exact ((kp.trans kb.orD).trans Kp.updD).trans k7.orD
      · exact RepL.step k7.mut2 (RepL.step k6 (ra5.app (.cons r5 .nil)))
    | false =>
      refine iteF ?_
      have q4 : DLc X ((F.also hs).out D') scope vs tg ifs elt (ds.drop (i + 1)) acc (wipeE ρ4 vs) fun acc ρ2 => Q (.own (.lst acc)) ρ2 := q4
      obtain ⟨ok7, k7⟩ := ok4.wiped (σ' := σ) (vs := vs) hσ' hlen
      refine ⟨_, accV, acc, ok7, (kp.trans ka.orD).trans k7.orD, ka.keep _ _ ha (ok.notMut hO nb), RepL.step (ka.trans k7).mut2 ra, q4⟩
  · have ei : i = ds.length := by omega
    rw [List.drop_eq_nil_of_le (by omega)] at q
    have q : Q (.own (.lst acc)) ρ := q
    refine .inl ⟨j1 ei, hR _ _ (.own (.lst acc)) ρ (.own ha h0 no nb (ok.notMut hO nb) ?_ (.lst ra)) ?_ q⟩
    · exact ok.move ⟨rfl, rfl, rfl, rfl, rfl⟩ (fun _ _ e => e) (fun b u e q => q) ok.out ok.bo (fun q hq => ok.held q (List.mem_append_right _ hq))
    · refine ⟨fun b o h n => ?_, fun b o h n m => ?_⟩
      · have h1 := k1.keep b o h n
        have hne : b ≠ D' := fun e => by rw [e, hD] at h1; cases h1
        exact kp.keep b o (by rw [upd_ne hne]; exact h1) (fun q => by
          rcases q with q | q
          · exact k1.none b o h n q
          · exact hne q)
      · have h1 := k1.keep b o h n
        have hne : b ≠ D' := fun e => by rw [e, hD] at h1; cases h1
        exact kp.none b o (by rw [upd_ne hne]; exact h1) (fun q => by
          rcases q with q | q
          · exact k1.none b o h n q
          · exact hne q) (.inl m)
theorem ds_setLc {y : Str} {py spos : Pos} {scope : Scope} {own : List (Str × Nat)} (hc : X.calm = true) (hN : X.N.Nodup) (hy : X.N.contains y = true) (hyl : X.env.scope.names.lookup y = some .local)
    (hsw : swapsWith (.ListComp elt [⟨tg, iter, ifs, 0⟩] scope pos) (some (.Name y py)) spos.line X.env = pure true) (ok : BlkOk X.N X.env.scope scope own) (hl : ifs.length ≤ 1) (hs : ∀ x, foldedSetIterable iter X.env x = pure x)
    (q : DI X F tg iter ρ fun ds ρ1 => ∀ hs D', DLc X ((F.also hs).out D') scope (own.map (·.2)) tg ifs elt ds [] ρ1 fun acc ρ2 => E.nx (setE X.N ρ2 y (D.own (.lst acc)).fz)) : DS X F (.Assign [.Name y py] (.ListComp elt [⟨tg, iter, ifs, 0⟩] scope pos) spos) E ρ := fun σ H ok0 => by
  obtain ⟨wi, hi, q⟩ := q
  refine s_setLcI (σ := σ) hc hN hy hyl hsw hi ok hl hs ?_
  refine q σ H _ ok0 fun J H1 ρ1 hs ds ok1 k1 it q => ?_
  refine lcR (Q := fun d ρ2 => E.nx (setE X.N ρ2 y d.fz)) ok0 ok1 k1 it (fun D' => q hs D') fun v H2 d ρ' r k q1 => ?_
  obtain ⟨i, h⟩ := idx_of hy
  rw [setE_eq h hN] at q1
  rw [setN_eq h hN]
  exact ⟨_, r.fz.1.set r.fz.2, q1⟩
variable {k y : Str} {pk py spos : Pos}
theorem ds_setLc1 {scope : Scope} (n : Nat) (hk : X.N[n]? = some k) (hc : X.calm = true) (hN : X.N.Nodup) (hy : X.N.contains y = true) (hyl : X.env.scope.names.lookup y = some .local)
    (hsw : swapsWith (.ListComp elt [⟨.Name k pk, iter, ifs, 0⟩] scope pos) (some (.Name y py)) spos.line X.env = pure true) (ok : blkN X.N X.env.scope scope [k] = true) (hl : ifs.length ≤ 1) (hs : ∀ x, foldedSetIterable iter X.env x = pure x)
    (q : DI X F (.Name k pk) iter ρ fun ds ρ1 => ∀ hs D', DLc X ((F.also hs).out D') scope [n] (.Name k pk) ifs elt ds [] ρ1 fun acc ρ2 => E.nx (setE X.N ρ2 y (D.own (.lst acc)).fz)) : DS X F (.Assign [.Name y py] (.ListComp elt [⟨.Name k pk, iter, ifs, 0⟩] scope pos) spos) E ρ :=
  ds_setLc (own := [(k, n)]) hc hN hy hyl hsw (blkOk_of (own1 hk) ok) hl hs q
end
end Dx

end
section -- Dr
set_option maxRecDepth 100000
set_option maxHeartbeats 4000000
/-! a.x, an attribute that an instance holds. -/
namespace Dx
open PySem PySem.Spec L2 Sx
open PyProof.Rows hiding St
section
variable {X : Cx} {F : Fx} {e : Expr} {ρ : En} {pos : Pos} {x cn : Str} {Q : DQ} {C : Addr} {K : PySem.W.Frag} {w : World} {cl : Nm} {O : Addr → Prop} {H : Hp}
theorem rep_look {d : D} : ∀ {fs : List (Str × V)} {ds : List (Str × D)}, fs.map (·.1) = ds.map (·.1) → RepL K w cl O H (fs.map (·.2)) (ds.map (·.2)) → ds.lookup x = some d → ∃ v, fs.lookup x = some v ∧ Rep K w cl O H v d
  | [], [], _, _, h => by cases h
  | (a, v) :: fs, (b, u) :: ds, k, r, h => by
    have k1 : a = b := (List.cons.inj k).1
    subst k1
    have h : (match x == a with | true => some u | false => ds.lookup x) = some d := h
    show ∃ v', (match x == a with | true => some v | false => fs.lookup x) = some v' ∧ _
    cases r with
    | cons r1 r2 =>
      cases hx : x == a with
      | true =>
        rw [hx] at h
        cases h
        exact ⟨v, rfl, r1⟩
      | false =>
        rw [hx] at h
        exact rep_look (List.cons.inj k).2 r2 h
theorem look_key {d : D} : ∀ {ds : List (Str × D)}, ds.lookup x = some d → x ∈ ds.map (·.1)
  | [], h => by cases h
  | (b, u) :: ds, h => by
    rw [List.lookup_cons] at h
    split at h
    · rename_i e
      rw [List.map_cons, eq_of_beq e]
      exact List.mem_cons_self ..
    · exact List.mem_cons_of_mem _ (look_key h)
theorem d_fld [f : Fit X F] (hab : attributeBase e x X.env (eval e X.env) = eval e X.env)
    (q : DE X F e ρ fun d ρ1 => ∃ fs d1, d = .ins cn fs ∧ fs.lookup x = some d1 ∧ Q d1 ρ1) : DE X F (.Attribute e x pos) ρ Q := fun σ H ok => by
  refine e_fld hab (de_run q ok fun v H1 d ρ1 ok1 r1 k1 ⟨fs, d1, hd, hl, q⟩ => ?_)
  subst hd
  have r1 : Rep F.K F.w F.cl (Av F σ ρ1) H1 v (.ins cn fs) := r1
  cases r1 with
  | ins hc g h no k r =>
    obtain ⟨u, h1, h2⟩ := rep_look k r hl
    have nA : NoAttr F.K _ x := g.2 x (look_key hl)
    exact ⟨_, _, _, _, u, rfl, h, by rw [← f.K]; exact g.1.isC.cl, by rw [← f.K]; exact nA, h1, d1, ρ1, .rep ok1 h2, k1, q⟩
end
end Dx

end
section -- Dt
set_option maxRecDepth 100000
set_option maxHeartbeats 4000000
/-! Calls with defaults; making; attributes stored; names stored. -/
namespace Dx
open PySem PySem.Spec L2 Sx
open PyProof.Rows hiding St
section
variable {K : PySem.W.Frag} {w : World} {cl : Nm} {O : Addr → Prop} {H : Hp}
theorem ArgsR.app : ∀ {ba : Option Addr} {vs us : List V} {ds es : List D}, ArgsR K w cl O H ba vs ds → RepL K w cl O H us es → ArgsR K w cl O H ba (vs ++ us) (ds ++ es)
  | _, _, _, _, _, .nil, r => ArgsR.of r
  | _, _, _, _, _, .rep r t, q => .rep r (ArgsR.app t q)
  | _, _, _, _, _, .bor o h r t, q => .bor o h r (ArgsR.app t q)
theorem Rep.insC {v : V} {cn : Str} {fs : List (Str × D)} (r : Rep K w cl O H v (.ins cn fs)) : ∃ C, cl.c cn = some C ∧ GoodI K C (fs.map (·.1)) := by
  cases r with
  | ins hc g h n k r => exact ⟨_, hc, g⟩
end
section
variable {X : Cx} {F : Fx} {e a b c o : Expr} {es : List Expr} {ρ ρ' ρ1 : En} {σ : St} {H H' : Hp} {pos p apos fp pos' : Pos} {x m cn f : Str} {d d0 : D} {v u : V} {i : Nat} {Q : DQ} {E : DEnds} {k : Nat} {ps : List Str} {sp : DSp} {C fa : Addr} {fd : FuncData} {dvs : List V} {dfl : List D} {dsv : List Value} {fs : List (Str × D)}
theorem e_callD {sp : Sp} {QV : VK} (F : FnOk X.prog X.w X.K X.mg X.base CX0 k fa fd ps sp) (hm : X.mg x = some (.ref fa)) (hk : PySem.W.keepIn X.K (.ref fa) = true) (hb : Binds X.K fd ps dsv) (hv : Vals dvs dsv) (hr : Room k X.A) (hg : Gl X x) (hd : (x == ("__debug__" : Str)) = false) (he : starEach (e :: es) X.env = (false, eval e X.env) :: starEach es X.env) (hpl : (backTo pos (starEach es X.env)).any (·.1) = false)
    (q : RA X (e :: es) σ H fun vs H1 => sp (vs ++ dvs) H1 QV E0) : RE X (.Call (.Name x p) (e :: es) [] pos) σ H QV :=
  re_of (pe_call F hr hg hm hk hb hv pass0 (ra _) hd he hpl) q
theorem d_callD [fit : Fit X F] (Fn : FnOk X.prog X.w X.K X.mg X.base CX0 k fa fd ps (toSp X.K X.w F.cl sp)) (hm : X.mg x = some (.ref fa)) (hk : PySem.W.keepIn X.K (.ref fa) = true) (hb : Binds X.K fd ps dsv) (hv : Vals dvs dsv) (hdf : ∀ O H, RepL X.K X.w F.cl O H dvs dfl)
    (hr : Room k X.A) (hg : Gl X x) (hd : (x == ("__debug__" : Str)) = false) (he : starEach (e :: es) X.env = (false, eval e X.env) :: starEach es X.env) (hpl : (backTo pos (starEach es X.env)).any (·.1) = false)
    (q : DA X F (e :: es) ρ fun as ρ1 => ∃ ds l, Bnd ρ1 as ds l ∧ sp (ds ++ dfl) fun d outs => Q d (putOut ρ1 l outs)) : DE X F (.Call (.Name x fp) (e :: es) [] pos) ρ Q := fun σ H ok => by
  refine e_callD Fn hm hk hb hv hr hg hd he hpl (ra_mono (q σ H ok) fun vs H1 ⟨as, ρ1, ok1, ps, k1, ds, l, b, q⟩ => ?_)
  obtain ⟨ba, a1, a2, a3⟩ := b.args ok1 ps
  refine ⟨ds ++ dfl, Av F σ ρ1, ba, _, fun b q => ok1.av q, by rw [fit.K, fit.w] at a1; exact a1.app (hdf _ _), q, fun d outs hq v H' t R => ?_⟩
  rw [← fit.K, ← fit.w] at R
  obtain ⟨r1, r2⟩ := ret_res ok1 a2 a3 R
  exact ⟨d, _, r1, k1.trans r2, hq⟩
/-- behind a call that was lent a new thing, which is still new -/
theorem ok_lent {a : Addr} {outs : List MV} (ok : Ok (F.out a) H σ ρ) (h0 : F.H0 a = none) (nb : ¬ F.B a) (R : Ret F.K F.w F.cl (Av (F.out a) σ ρ) H (some a) outs v H' d none) : Ok (F.out a) H' σ ρ := by
  have ne : ∀ b, (F.out a).Out b ∨ b = a → ∀ o, H b = some o → True := fun _ _ _ _ => trivial
  have kp : Kp (Av (F.out a) σ ρ) H (Av (F.out a) σ ρ) H' := ⟨fun b o h n => R.keep b o h fun e => n (.inl (.inr (Option.some.inj e).symm)), fun _ _ _ n => n⟩
  refine { len := ok.len, slot := fun j x hx => ?_, dist := ok.dist, keep := fun b o h n => ?_, out := fun b h => R.alloc b (.inl h), bo := ok.bo, held := fun q hq => q.st _ _ _ _ (ok.held q hq) kp }
  · obtain ⟨w, e1, e2⟩ := ok.slot j x hx
    refine ⟨w, e1, ?_⟩
    cases e2 with
    | own h n o r => exact .own (R.keep _ _ h fun e => o (.inr (Option.some.inj e).symm)) n o (MRep.step r kp)
    | bor h n r => exact .bor (R.keep _ _ h fun e => nb (by rw [Option.some.inj e]; exact n)) n (MRep.step r kp)
    | rep r => exact .rep (Rep.step kp r)
  · refine R.keep b o (ok.keep b o h n) fun e => ?_
    have h : F.H0 b = some o := h
    rw [← Option.some.inj e, h0] at h
    cases h
/-- a new object of a class -/
theorem d_mkD [fit : Fit X F] (M : Mk X.K C fa) (Fn : FnOk X.prog X.w X.K X.mg X.base CX0 k fa fd ps (toSp X.K X.w F.cl sp)) (hm : X.mg x = some (.ref C)) (hb : Binds X.K fd ps dsv) (hv : Vals dvs dsv) (hdf : ∀ O H, RepL X.K X.w F.cl O H dvs dfl) (hc : F.cl.c x = some C) (cf : ClsF X.K C)
    (hr : Room (k + 1) X.A) (hg : Gl X x) (hd : (x == ("__debug__" : Str)) = false) (he : starEach (e :: es) X.env = (false, eval e X.env) :: starEach es X.env) (hpl : (backTo pos (starEach es X.env)).any (·.1) = false)
    (q : DA X F (e :: es) ρ fun as ρ1 => ∃ ds, agV as = some ds ∧ sp (.bor (.ins x []) :: (ds ++ dfl)) fun d outs => ∃ m, d = .non ∧ outs = [m] ∧ Q (.own m) ρ1) : DE X F (.Call (.Name x fp) (e :: es) [] pos) ρ Q := fun σ H ok => by
  refine re_of (pe_make M Fn hr hg hm hb hv pass0 (ra _) hd he hpl) (ra_mono (q σ H ok) fun vs H1 ⟨as, ρ1, ok1, ps, k1, ds, e, q⟩ => ?_)
  intro y dx hy hdx hne
  have ok2 : Ok F (upd H1 dx (.own y)) σ ρ1 := ok1.new hdx
  have hy2 : upd H1 dx (.own y) y = none := by rw [upd_ne (fun e => hne e.symm)]; exact hy
  have ok3 : Ok (F.out y) (upd (upd H1 dx (.own y)) y (.ins C dx [])) σ ρ1 := ok2.addOut hy2
  have g2 : ∀ b o, H1 b = some o → upd (upd H1 dx (.own y)) y (.ins C dx []) b = some o := fun b o h => grow_upd hy2 b o (grow_upd hdx b o h)
  have nO : ¬ Av F σ ρ1 y := ok1.navn hy
  have kO : Kp (Av F σ ρ1) H1 (Av (F.out y) σ ρ1) (upd (upd H1 dx (.own y)) y (.ins C dx [])) := ⟨fun b o h _ => g2 b o h, fun b o h n m => by
    rcases m with (m | m) | m
    · exact n (.inl m)
    · subst m; rw [hy] at h; cases h
    · exact n (.inr m)⟩
  refine ⟨.bor (.ins x []) :: (ds ++ dfl), Av (F.out y) σ ρ1, some y, _, fun b h => ok3.av h, .bor (.inl (.inr rfl)) upd_same (.ins hc ⟨cf, fun _ h => by cases h⟩ rfl .nil) ?_, q, fun d outs ⟨m, hd, ho, hq⟩ v H' t R => ?_⟩
  · refine ArgsR.of (RepL.app ?_ (hdf _ _))
    rw [← fit.K, ← fit.w]
    exact RepL.step kO (ps.vals e)
  · subst hd
    subst ho
    rw [← fit.K, ← fit.w] at R
    cases t with
    | some a => obtain ⟨_, _, _, hd, _⟩ := R.new a rfl; cases hd
    | none =>
      refine ⟨(R.res rfl).nonV, .own m, ρ1, ?_, ?_, hq⟩
      · have h0 : F.H0 y = none := ok1.n0 hy
        have nb : ¬ F.B y := fun h => nO (.inl (ok1.bo y h))
        obtain ⟨us, u1, u2⟩ := R.out y m rfl rfl
        exact .own u1 h0 (fun h => nO (.inl h)) nb (fun h => nO (.inr h)) (ok_lent ok3 h0 nb R) (MRep.step u2 (.weak fun b q => .inl q))
      · refine k1.trans ⟨fun b o h n => R.keep b o (g2 b o h) fun e => ?_, fun _ _ _ n => n⟩
        rw [← Option.some.inj e, hy] at h
        cases h
/-- x = e, whatever it gives -/
theorem ds_sto (hN : X.N.Nodup) (hi : X.N[i]? = some x) (hx : L2.Loc X.env.scope x) (hf : X.fn x = true ∨ X.env.scope.names.lookup x = some .local) (hs : swapsWith e (some (.Name x pos')) pos.line X.env = pure false)
    (q : DE X F e ρ fun d ρ1 => E.nx (ρ1.set i (some d))) : DS X F (.Assign [.Name x pos'] e pos) E ρ := fun σ H ok => by
  have hc : X.N.contains x = true := by simpa using List.mem_of_getElem? hi
  refine s_set (σ' := σ) hN hc hx hf hs (re_mono (q σ H ok) fun v H1 ⟨d, ρ1, r, k, q⟩ => ?_)
  rw [setN_eq hi hN]
  cases r with
  | rep ok r => exact ⟨_, ok.set r, q⟩
  | own ha h0 no nb nm ok1 r => exact ⟨_, ok1.setOwn ha h0 no nb nm r, q⟩
/-- an attribute set -/
def putD (f : Str) (v : D) : List (Str × D) → List (Str × D)
  | [] => [(f, v)]
  | (g, u) :: r => if g = f then (g, v) :: r else (g, u) :: putD f v r
theorem putF_rep {K : PySem.W.Frag} {w : World} {cl : Nm} {O : Addr → Prop} {H : Hp} {f : Str} {v : V} {d : D} (r : Rep K w cl O H v d) : ∀ {fs : List (Str × V)} {ds : List (Str × D)}, fs.map (·.1) = ds.map (·.1) → RepL K w cl O H (fs.map (·.2)) (ds.map (·.2)) →
    (putF f v fs).map (·.1) = (putD f d ds).map (·.1) ∧ RepL K w cl O H ((putF f v fs).map (·.2)) ((putD f d ds).map (·.2))
  | [], [], _, _ => ⟨rfl, .cons r .nil⟩
  | (a, u) :: fs, (b, z) :: ds, k, t => by
    have k1 : a = b := (List.cons.inj k).1
    subst k1
    cases t with
    | cons t1 t2 =>
      unfold putF putD
      by_cases e : a = f
      · rw [if_pos e, if_pos e]
        exact ⟨by simpa using (List.cons.inj k).2, .cons r t2⟩
      · rw [if_neg e, if_neg e]
        obtain ⟨h1, h2⟩ := putF_rep r (List.cons.inj k).2 t2
        exact ⟨by simp [h1], .cons t1 h2⟩
theorem putD_names {f : Str} {d : D} : ∀ {ds : List (Str × D)} {g : Str}, g ∈ (putD f d ds).map (·.1) → g = f ∨ g ∈ ds.map (·.1)
  | [], g, h => by simp [putD] at h; exact .inl h
  | (b, z) :: ds, g, h => by
    unfold putD at h
    split at h
    · rename_i e; subst e; simp at h ⊢; exact h
    · simp only [List.map_cons, List.mem_cons] at h ⊢
      rcases h with h | h
      · exact .inr (.inl h)
      · rcases putD_names h with h | h
        · exact .inl h
        · exact .inr (.inr h)
/-- x.f = e, of a slot that keeps an instance -/
theorem ds_fld {cn : Str} {np : Pos} [fit : Fit X F] (h0 : X.N[i]? = some x) (hv : Vis X.env.scope x) (hd : (x == ("__debug__" : Str)) = false) (hcd : (x == ("__classdict__" : Str)) = false) (hs : swapsWith e (some (.Attribute (.Name x np) f pos')) pos.line X.env = pure false)
    (hn : ∀ C, F.cl.c cn = some C → NoAttr X.K C f)
    (q : DE X F e ρ fun d ρ1 => ∃ d1 fs, ρ1[i]? = some (some d1) ∧ d1.mv = some (.ins cn fs) ∧ fs.length < 1000 ∧ E.nx (ρ1.set i (some (d1.putM (.ins cn (putD f d.fz fs)))))) : DS X F (.Assign [.Attribute (.Name x np) f pos'] e pos) E ρ := fun σ H ok => by
  refine s_fld hs (de_run q ok fun v H1 d ρ1 ok1 r1 k1 ⟨d1, fs, g1, g2, g3, q⟩ => ?_)
  obtain ⟨a, u, s1, s2, s3, s4⟩ := ok1.putV g1 g2
  refine re_of (pe_var h0 hv hd hcd) ⟨_, s1, ?_⟩
  cases s3 with
  | ins hc g k r =>
    obtain ⟨p1, p2⟩ := putF_rep (f := f) r1 k r
    have hl : ∀ {fsV : List (Str × V)}, fsV.map (·.1) = fs.map (·.1) → fsV.length < 1000 := fun {fsV} h => by
      have := congrArg List.length h
      simp at this
      omega
    refine ⟨a, _, _, _, rfl, s2, by rw [← fit.K]; exact g.1.isC.cl, hn _ hc, hl k, ?_⟩
    refine ⟨_, (s4 _ _ (.ins hc ⟨g.1, fun y hy => ?_⟩ p1 p2)).1, q⟩
    rcases putD_names hy with rfl | hy
    · rw [fit.K]; exact hn _ hc
    · exact g.2 y hy
end
end Dx

end
section -- Du
set_option maxRecDepth 100000
set_option maxHeartbeats 4000000
/-! Attributes and methods of an object whatever its class. -/
namespace Dx
open PySem PySem.Spec L2 Sx
open PyProof.Rows hiding St
section
variable {X : Cx} {F : Fx} {e a b c o : Expr} {es : List Expr} {ρ ρ' ρ1 : En} {σ : St} {H H' : Hp} {pos p apos fp pos' : Pos} {x m cn f : Str} {d d0 : D} {v u : V} {i : Nat} {Q : DQ} {k : Nat} {ps : List Str} {sp : DSp} {C fa : Addr} {j : Int} {fs : List (Str × D)}
theorem d_fldF [fit : Fit X F] (hab : attributeBase e x X.env (eval e X.env) = eval e X.env)
    (q : DE X F e ρ fun d ρ1 => ∃ cn fs d1, d.fz = .ins cn fs ∧ fs.lookup x = some d1 ∧ Q d1 ρ1) : DE X F (.Attribute e x pos) ρ Q := fun σ H ok => by
  refine e_fld hab (de_run q ok fun v H1 d ρ1 ok1 r1 k1 ⟨cn, fs, d1, hd, hl, q⟩ => ?_)
  rw [hd] at r1
  have r1 : Rep F.K F.w F.cl (Av F σ ρ1) H1 v (.ins cn fs) := r1
  cases r1 with
  | ins hc g h no k r =>
    obtain ⟨u, h1, h2⟩ := rep_look k r hl
    have nA : NoAttr F.K _ x := g.2 x (look_key hl)
    exact ⟨_, _, _, _, u, rfl, h, by rw [← fit.K]; exact g.1.isC.cl, by rw [← fit.K]; exact nA, h1, d1, ρ1, .rep ok1 h2, k1, q⟩
theorem no_meth [fit : Fit X F] {O : Addr → Prop} {kp : Nat} (r : F.R O H v (.ins cn fs)) (hc : F.cl.c cn = some C) {g : Addr} (hm : Meth X.K C m g) : fs.lookup m = none := by
  cases h : fs.lookup m with
  | none => rfl
  | some d =>
    obtain ⟨C', h1, h2⟩ := Rep.insC r
    rw [hc] at h1
    cases h1
    have h3 : NoAttr F.K C m := h2.2 m (look_key h)
    have h4 := hm.at_
    rw [fit.K] at h3
    unfold NoAttr at h3
    rw [h3] at h4
    cases h4
theorem d_propF [f : Fit X F] (hc : F.cl.c cn = some C) (M : PropOk X.prog X.w X.K X.mg X.base C x k ps (toSp X.K X.w F.cl sp)) (c : Cls X.K C) (hr : Room (k + 1) X.A) (hab : attributeBase e x X.env (eval e X.env) = eval e X.env)
    (q : DE X F e ρ fun d ρ1 => ∃ fs, d.fz = .ins cn fs ∧ sp [.ins cn fs] fun r _ => Q r ρ1) : DE X F (.Attribute e x pos) ρ Q := fun σ H ok => by
  refine e_propOk M c hr hab (de_run q ok fun v H1 d ρ1 ok1 r1 k1 ⟨fs, hd, q⟩ => ?_)
  rw [hd] at r1
  have s1 := r1
  obtain ⟨a, C1, dx, vs, rfl, c1, g1, _⟩ := Rep.insRef r1
  rw [hc] at c1
  cases c1
  exact ⟨a, dx, vs, rfl, g1, ofSp ok1 (.cons s1 .nil) q fun d outs hq v H' r kp => ⟨d, ρ1, r, k1.trans kp, hq⟩⟩
theorem d_methF {pl : Sem Bool} [f : Fit X F] (hc : F.cl.c cn = some C) (M : MethOk X.prog X.w X.K X.mg X.base C m k ps (toSp X.K X.w F.cl sp)) (c : Cls X.K C) (hr : Room k X.A)
    (hst : starEach (e :: es) X.env = (false, eval e X.env) :: starEach es X.env) (hpl : (backTo pos (starEach es X.env)).any (·.1) = false)
    (ht : eval (.Call (.Attribute o m apos) (e :: es) [] pos) X.env = (do let z ← eval o X.env; standAt apos.atName; let (y, first) ← holding [z] (getMethod z m pl); callWith pos y first (backTo pos (starEach (e :: es) X.env)) (backToKw pos (keywordEach [] X.env))))
    (q : DE X F o ρ fun d ρ1 => ∃ fs, d.fz = .ins cn fs ∧ DA X F (e :: es) ρ1 fun as ρ2 => ∃ ds, agV as = some ds ∧ sp (.ins cn fs :: ds) fun r _ => Q r ρ2) : DE X F (.Call (.Attribute o m apos) (e :: es) [] pos) ρ Q := fun σ H ok => by
  refine e_meth c M hr hst hpl ht (de_run q ok fun v H1 d ρ1 ok1 r1 k1 ⟨fs, hd, q⟩ => ?_)
  rw [hd] at r1
  have hm : fs.lookup m = none := by
    obtain ⟨f', fd', _, hm', _⟩ := M.ex
    exact no_meth (kp := 0) r1 hc hm'
  have s1 := r1
  obtain ⟨a, C1, dx, vs, rfl, c1, g1, g2⟩ := Rep.insRef r1
  rw [hc] at c1
  cases c1
  refine ⟨a, dx, vs, rfl, g1, lookup_names g2 hm, ra_mono (q σ H1 ok1) fun us H2 ⟨as, ρ2, ok2, ps, k2, ds, e, q⟩ => ?_⟩
  exact ofSp ok2 (.cons (Rep.step k2.mut s1) (ps.vals e)) q fun d outs hq v H' r kp => ⟨d, ρ2, r, (k1.trans k2).trans kp, hq⟩
theorem d_meth0F {pl : Sem Bool} [f : Fit X F] (hc : F.cl.c cn = some C) (M : MethOk X.prog X.w X.K X.mg X.base C m k ps (toSp X.K X.w F.cl sp)) (c : Cls X.K C) (hr : Room k X.A)
    (ht : eval (.Call (.Attribute o m apos) [] [] pos) X.env = (do let z ← eval o X.env; standAt apos.atName; let (y, first) ← holding [z] (getMethod z m pl); callWith pos y first (backTo pos (starEach [] X.env)) (backToKw pos (keywordEach [] X.env))))
    (q : DE X F o ρ fun d ρ1 => ∃ fs, d.fz = .ins cn fs ∧ sp [.ins cn fs] fun r _ => Q r ρ1) : DE X F (.Call (.Attribute o m apos) [] [] pos) ρ Q := fun σ H ok => by
  refine e_meth0 c M hr ht (de_run q ok fun v H1 d ρ1 ok1 r1 k1 ⟨fs, hd, q⟩ => ?_)
  rw [hd] at r1
  have hm : fs.lookup m = none := by
    obtain ⟨f', fd', _, hm', _⟩ := M.ex
    exact no_meth (kp := 0) r1 hc hm'
  have s1 := r1
  obtain ⟨a, C1, dx, vs, rfl, c1, g1, g2⟩ := Rep.insRef r1
  rw [hc] at c1
  cases c1
  exact ⟨a, dx, vs, rfl, g1, lookup_names g2 hm, ofSp ok1 (.cons s1 .nil) q fun d outs hq v H' r kp => ⟨d, ρ1, r, k1.trans kp, hq⟩⟩
theorem d_methKF {kw : Str} {kpos : Pos} {pl : Sem Bool} [f : Fit X F] (hc : F.cl.c cn = some C) (c : Cls X.K C) (M : MethKOk X.prog X.w X.K X.mg X.base C m kw k ps (toSp X.K X.w F.cl sp)) (hr : Room k X.A)
    (ht : eval (.Call (.Attribute o m apos) [] [⟨some kw, e, kpos⟩] pos) X.env = (do let z ← eval o X.env; standAt apos.atName; let (y, first) ← holding [z] (getMethod z m pl); callWith pos y first (backTo pos (starEach [] X.env)) (backToKw pos (keywordEach [⟨some kw, e, kpos⟩] X.env))))
    (hall : ((backToKw pos (keywordEach [⟨some kw, e, kpos⟩] X.env)).all fun x => x.1.isSome) = true) (hks : (backToKw pos (keywordEach [⟨some kw, e, kpos⟩] X.env)).filterMap (fun x => x.1) = [kw]) (hpl : (((backTo pos (starEach [] X.env)).any fun x => x.1) || (backToKw pos (keywordEach [⟨some kw, e, kpos⟩] X.env)).any fun x => x.1.isNone) = false)
    (q : DE X F o ρ fun d ρ1 => ∃ fs, d.fz = .ins cn fs ∧ DE X F e ρ1 fun y ρ2 => sp [.ins cn fs, y.fz] fun r _ => Q r ρ2) : DE X F (.Call (.Attribute o m apos) [] [⟨some kw, e, kpos⟩] pos) ρ Q := fun σ H ok => by
  refine e_methK c M hr ht hall hks hpl (de_run q ok fun v H1 d ρ1 ok1 r1 k1 ⟨fs, hd, q⟩ => ?_)
  rw [hd] at r1
  have hm : fs.lookup m = none := by
    obtain ⟨f', fd', _, hm', _⟩ := M.ex
    exact no_meth (kp := 0) r1 hc hm'
  have s1 := r1
  obtain ⟨a, C1, dx, vs, rfl, c1, g1, g2⟩ := Rep.insRef r1
  rw [hc] at c1
  cases c1
  refine ⟨a, dx, vs, rfl, g1, lookup_names g2 hm, de_run q ok1 fun u H2 y ρ2 ok2 r2 k2 q => ?_⟩
  exact ofSp ok2 (.cons (Rep.step k2.mut s1) (.cons r2 .nil)) q fun d outs hq v H' r kp => ⟨d, ρ2, r, (k1.trans k2).trans kp, hq⟩
end
end Dx

end
section -- E1
set_option maxRecDepth 100000
set_option maxHeartbeats 4000000
/-! A program by its values: what a piece of syntax is worth, as a function. -/
namespace Ev
open PySem Dx

inductive Out (α σ : Type) where
  | ok (a : α) (s : σ) | exn (x : D) (s : σ) | stuck
def Out.bind {α β σ : Type} : Out α σ → (α → σ → Out β σ) → Out β σ
  | .ok a s, f => f a s
  | .exn x s, _ => .exn x s
  | .stuck, _ => .stuck
inductive Flow where
  | nx | ret (d : D) | bk | ct
/-- a def by its name, a method by its class's and its name -/
inductive FK where
  | f (x : Str) | m (c x : Str) | p (c x : Str) | i (c : Str) | k (c x : Str)
  deriving DecidableEq, Repr
/-- a built-in -/
inductive Bf where
  | len | int | abs | tuple | list | set | sorted | all | any | divmod | isinstance | str | repr | bool | min | max | sum | gcd | isqrt
  deriving DecidableEq, Repr
/-- a method of a built-in value -/
inductive Bm where
  | bitLength | join | split | endswith | get | count | index | removesuffix | isdecimal | replace | partition | find | upper | values
  deriving DecidableEq, Repr
mutual
inductive IE where
  | cst (d : D) | var (i : Nat) | glb (x : Str)
  | bin (op : Operator) (a b : IE) | una (op : UnaryOp) (a : IE) | not (a : IE)
  | cmp (op : CmpOp) (a b : IE) | chn (op op' : CmpOp) (a b c : IE)
  | and (a b : IE) | or (a b : IE) | ife (c : IT) (a b : IE)
  | tup (es : List IE) | lst (es : List IE)
  /-- a[b]; x[b] of a name; len of a name -/
  | idx (a b : IE) | idv (i : Nat) (b : IE) | lev (i : Nat) | slc (a : IE) (lo hi : Option IE)
  /-- a built-in; a def; f(g(..), ..); a class -/
  | blt (f : Bf) (es : List IE) | cal (f : Str) (es : List IA) (df : List D) | cas (f g : Str) (es : List IA) (ks : List IE) | mak (c : Str) (es : List IE) (df : List D)
  | fld (a : IE) (f : Str) | prp (a : IE) (f : Str) | met (a : IE) (m : Str) (es : List IE) (kn : List Str) (ks : List IE)
  | bme (a : IE) (m : Bm) (es : List IE)
  | app (i : Nat) (e : IE) | pop (i : Nat) (e : IE)
  | lcm (elt : IE) (vs : List Nat) (tg : IG) (it : II) (cnd : Option IT)
/-- a test -/
inductive IT where
  | of (e : IE) | not (a : IT) | and (a b : IT) | or (a b : IT) | cmp (op : CmpOp) (a b : IE) | chn (op op' : CmpOp) (a b c : IE)
/-- an argument of a def: a name is lent where it keeps a list -/
inductive IA where
  | of (e : IE) | var (i : Nat)
/-- what is walked -/
inductive II where
  | of (e : IE) | rng (es : List IE) | enu (e : IE)
/-- a target -/
inductive IG where
  | nm (i : Nat) | tp (ts : List IG) | sub (i : Nat) (e : IE) | att (i : Nat) (c f : Str)
end
inductive IS where
  | stk | pass | brk | cnt | ret (e : Option IE) | expr (e : IE)
  | set (i : Nat) (e : IE) | asg (t : IG) (e : IE) | aug (i : Nat) (op : Operator) (e : IE)
  | ite (c : IT) (a b : List IS)
  | for (t : IG) (it : II) (body : List IS) | whl (c : IT) (body : List IS)
  | rai (c : Str) (es : List IE)
structure Fn where
  np : Nat
  ns : Nat
  mu : List Bool
  body : List IS
abbrev Cal := FK → List D → Out D (List MV)
abbrev OE := Out D En
/-! ### values -/
def mulOk (i j : Int) : Bool := decide (-(2 ^ 64) < i ∧ i < 2 ^ 64) || decide (-(2 ^ 64) < j ∧ j < 2 ^ 64)
def intOp : Operator → Int → Int → Option Int
  | .Add, i, j => some (i + j)
  | .Sub, i, j => some (i - j)
  | .Mult, i, j => if mulOk i j = true then some (i * j) else none
  | .Mod, i, j => if 0 < j then some (i % j) else none
  | .FloorDiv, i, j => if 0 < j ∧ j < 2 ^ 100 then some (i / j) else none
  | .Pow, i, j => if 0 ≤ j ∧ j ≤ 64 ∧ i.natAbs < 2 ^ 64 then some (i ^ j.toNat) else none
  | .LShift, i, j => if 0 ≤ j ∧ (Builtin.Int.intBits i : Int) + j ≤ 2 ^ 27 then some (i * 2 ^ j.toNat) else none
  | .RShift, i, j => if 0 ≤ j then some (i / 2 ^ j.toNat) else none
  | .BitAnd, i, j => some (Builtin.bitAnd i j)
  | .BitOr, i, j => some (Builtin.bitOr i j)
  | .BitXor, i, j => some (Builtin.bitXor i j)
  | _, _, _ => none
def opD : Operator → D → D → Option D
  | op, .int i, .int j => (intOp op i j).map D.int
  | .Add, .lst xs, .lst ys => if xs.length + ys.length ≤ sizeLine then some (.own (.lst (xs ++ ys))) else none
  | .Add, .tup xs, .tup ys => if xs.length + ys.length ≤ sizeLine then some (.tup (xs ++ ys)) else none
  | .Add, .str xs, .str ys => if xs.length + ys.length ≤ sizeLine then some (.str (xs ++ ys)) else none
  | .Mult, .lst xs, .int k => if (0 ≤ k ∧ k < 2 ^ 24) ∧ xs.length * k.toNat ≤ sizeLine then some (.own (.lst (List.flatten (List.replicate k.toNat xs)))) else none
  | _, _, _ => none
def unD : UnaryOp → D → Option D
  | .USub, .int i => some (.int (-i))
  | .Invert, .int i => some (.int (Builtin.bitNot i))
  | _, _ => none
/-- == of data -/
def eqD (x y : D) : Option Bool :=
  match x, y with
  | .int i, .int j => some (decide (i = j))
  | .str i, .str j => some (decide (i = j))
  | .bl i, .bl j => some (decide (i = j))
  | _, _ => match x.dat, y.dat with
    | some p, some q => if SeqAt.shaped p = true ∧ SeqAt.shaped q = true then some (PyData.eqv p q) else none
    | _, _ => none
def intsOf : List D → Option (List Int)
  | [] => some []
  | .int i :: ds => (intsOf ds).map (i :: ·)
  | _ => none
def inD (x y : D) : Option Bool :=
  match x, y with
  | .int i, .tup ds => (intsOf ds).map fun ns => decide (i ∈ ns)
  | _, _ => none
def cmpD : CmpOp → D → D → Option Bool
  | .Lt, .int i, .int j => some (decide (i < j))
  | .LtE, .int i, .int j => some (decide (i ≤ j))
  | .Gt, .int i, .int j => some (decide (j < i))
  | .GtE, .int i, .int j => some (decide (j ≤ i))
  | .Eq, x, y => eqD x y
  | .NotEq, x, y => (eqD x y).map (!·)
  | .Is, x, .non => some x.isNon
  | .IsNot, x, .non => some (!x.isNon)
  | .In, x, y => inD x y
  | .NotIn, x, y => (inD x y).map (!·)
  | _, _, _ => none
def truD : D → Option Bool
  | .bl k => some k
  | .int i => some (i != 0)
  | .non => some false
  | .tup ds => some (!ds.isEmpty)
  | .lst ds => some (!ds.isEmpty)
  | _ => none
def idxD : D → D → Option D
  | .tup ds, .int i => L2.atI ds i
  | .lst ds, .int i => L2.atI ds i
  | .scr ds, .int i => L2.atI ds i
  | _, _ => none
def slcD : D → Option Int → Option Int → Option D
  | .lst ds, lo, hi => some (.own (.lst (cutD ds lo hi)))
  | .scr ds, lo, hi => some (.own (.lst (cutD ds lo hi)))
  | .tup ds, lo, hi => some (.tup (cutD ds lo hi))
  | .str z, lo, hi => if z.length ≤ sizeLine then some (.str (L2.cutS z lo hi)) else none
  | _, _, _ => none
/-- the ascending members -/
def insI (i : Int) : List Int → List Int
  | [] => [i]
  | j :: js => if i < j then i :: j :: js else if i = j then j :: js else j :: insI i js
def sortU (ns : List Int) : List Int := ns.foldl (fun a i => insI i a) []
def insLe (i : Int) : List Int → List Int
  | [] => [i]
  | j :: js => if i ≤ j then i :: j :: js else j :: insLe i js
def sortI (ns : List Int) : List Int := ns.foldr insLe []
def minI : List Int → Option Int
  | [] => none
  | [i] => some i
  | i :: js => (minI js).map fun m => if m < i then m else i
def maxI : List Int → Option Int
  | [] => none
  | [i] => some i
  | i :: js => (maxI js).map fun m => if i < m then m else i
def blsOf : List D → Option (List Bool)
  | [] => some []
  | .bl i :: ds => (blsOf ds).map (i :: ·)
  | _ => none
/-- the built-in class of a value -/
def tyOf : D → Option String
  | .int _ => some "int" | .bl _ => some "bool" | .str _ => some "str" | .non => some "NoneType"
  | .tup _ => some "tuple" | .lst _ => some "list" | .scr _ => some "list" | .dct _ => some "dict"
  | _ => none
def isiD : D → D → Option Bool
  | .ins c _, .gl c' => some (decide (c = c'))
  | .ins _ _, .ty T => if T = "int" ∨ T = "bool" ∨ T = "str" ∨ T = "tuple" ∨ T = "list" ∨ T = "dict" then some false else none
  | x, .ty T => (tyOf x).bind fun t => L2.kitB t T
  | x, .gl _ => (tyOf x).map fun _ => false
  | _, _ => none
def bltD : Bf → List D → Option D
  | .len, [.tup ds] => some (.int ds.length)
  | .len, [.lst ds] => some (.int ds.length)
  | .len, [.scr ds] => some (.int ds.length)
  | .len, [.str z] => if z.length ≤ sizeLine then some (.int z.length) else none
  | .int, [.int i] => some (.int i)
  | .abs, [.int i] => some (.int (if i < 0 then -i else i))
  | .tuple, [.lst ds] => some (.tup ds)
  | .tuple, [.tup ds] => some (.tup ds)
  | .list, [.lst ds] => some (.own (.lst ds))
  | .list, [.tup ds] => some (.own (.lst ds))
  | .max, [.int i, .int j] => some (.int (if j > i then j else i))
  | .min, [.int i, .int j] => some (.int (if j < i then j else i))
  | .divmod, [.int i, .int j] => if 0 < j ∧ j < 1073741824 then some (.tup [.int (i / j), .int (i % j)]) else none
  | .set, [.lst ds] => if ds.length ≤ 4000 then (intsOf ds).map D.set else none
  | .set, [.tup ds] => if ds.length ≤ 4000 then (intsOf ds).map D.set else none
  | .sorted, [.set ns] => if (sortU ns).length < 64 then some (.own (.lst ((sortU ns).map D.int))) else none
  | .sorted, [.lst ds] => (intsOf ds).map fun ns => .own (.lst ((sortI ns).map D.int))
  | .all, [.lst ds] => (blsOf ds).map fun bs => .bl (bs.all id)
  | .min, [.lst ds] => ((intsOf ds).bind minI).map D.int
  | .max, [.lst ds] => ((intsOf ds).bind maxI).map D.int
  | .sum, [.lst ds] => (intsOf ds).map fun ns => .int ns.sum
  | .gcd, [.int i, .int j] => some (.int ((Nat.gcd i.natAbs j.natAbs : Nat) : Int))
  | .isinstance, [x, y] => (isiD x y).map D.bl
  | _, _ => none
def metD : Bm → D → List D → Option D
  | .bitLength, .int i, [] => some (.int (Builtin.Int.intBits i : Nat))
  | _, _, _ => none
/-! ### where one stands -/
def lift {α : Type} (o : Option α) (ρ : En) : Out α En := match o with
  | some a => .ok a ρ
  | none => .stuck
def getVar (i : Nat) (ρ : En) : OE := match ρ[i]? with
  | some (some (.own m)) => .ok m.fz (ρ.set i (some m.fz))
  | some (some (.bor _)) => .stuck
  | some (some d) => .ok d ρ
  | _ => .stuck
/-- the list that a slot keeps -/
def keptAt (i : Nat) (ρ : En) : Option (List D) := match ρ[i]? with
  | some (some d) => d.mutIs
  | _ => none
def putAt (i : Nat) (xs : List D) (ρ : En) : En := match ρ[i]? with
  | some (some d) => ρ.set i (some (d.put xs))
  | _ => ρ
/-- the thing that a slot keeps -/
def mvAt (i : Nat) (ρ : En) : Option MV := match ρ[i]? with
  | some (some d) => d.mv
  | _ => none
/-- the arguments as they are handed in -/
def bindAg (ρ : En) : List Ag → Option (List D × Option Nat)
  | [] => some ([], none)
  | .d x :: as => (bindAg ρ as).map fun r => (x :: r.1, r.2)
  | .len i :: as => match mvAt i ρ, bindAg ρ as with
    | some xs, some (ds, none) => some (.bor xs :: ds, some i)
    | _, _ => none
/-- behind a call -/
def back (ρ : En) (l : Option Nat) : Out D (List MV) → OE
  | .ok d outs => .ok d (putOut ρ l outs)
  | .exn x outs => .exn x (putOut ρ l outs)
  | .stuck => .stuck
def forD (step : D → En → Out Flow En) : List D → En → Out Flow En
  | [], ρ => .ok .nx ρ
  | x :: xs, ρ => match step x ρ with
    | .ok .nx ρ1 => forD step xs ρ1
    | .ok .ct ρ1 => forD step xs ρ1
    | .ok .bk ρ1 => .ok .nx ρ1
    | o => o
def lcD (step : D → En → Out (Option D) En) : List D → En → Out (List D) En
  | [], ρ => .ok [] ρ
  | x :: xs, ρ => (step x ρ).bind fun o ρ1 => (lcD step xs ρ1).bind fun ys ρ2 => .ok (o.toList ++ ys) ρ2
def whlD (cond : En → Out Bool En) (body : En → Out Flow En) : Nat → En → Out Flow En
  | 0, _ => .stuck
  | n + 1, ρ => (cond ρ).bind fun b ρ1 => if b = true then (match body ρ1 with
    | .ok .nx ρ2 => whlD cond body n ρ2
    | .ok .ct ρ2 => whlD cond body n ρ2
    | .ok .bk ρ2 => .ok .nx ρ2
    | o => o) else .ok .nx ρ1
def turnsMost : Nat := 10 ^ 9
def notO : D → En → OE
  | .bl k, ρ => .ok (.bl (!k)) ρ
  | _, _ => .stuck
def theB : D → En → Out Bool En
  | .bl k, ρ => .ok k ρ
  | _, _ => .stuck
def theI : D → En → Out (Option Int) En
  | .int i, ρ => .ok (some i) ρ
  | _, _ => .stuck
def lendO : D → En → Out MV En
  | .own m, ρ => .ok m ρ
  | _, _ => .stuck
def idvO (i : Nat) : D → En → OE
  | .int k, ρ => match keptAt i ρ with
    | some xs => lift (L2.atI xs k) ρ
    | none => .stuck
  | _, _ => .stuck
def appO (i : Nat) (y : D) (ρ : En) : OE := match keptAt i ρ with
  | some xs => if xs.length < sizeLine then .ok .non (putAt i (xs ++ [y]) ρ) else .stuck
  | none => .stuck
def popO (i : Nat) : D → En → OE
  | .int k, ρ => match keptAt i ρ with
    | some xs => if -(2 ^ 63) ≤ k ∧ k < 2 ^ 63 then match seqIndex? k xs.length with
      | some j => match xs[j]? with
        | some z => .ok z (putAt i (xs.eraseIdx j) ρ)
        | none => .stuck
      | none => .stuck else .stuck
    | none => .stuck
  | _, _ => .stuck
def subO (i : Nat) : D → D → En → Out Unit En
  | .int k, d, ρ => match keptAt i ρ with
    | some xs => match L2.ixN xs.length k with
      | some j => .ok () (putAt i (xs.set j d) ρ)
      | none => .stuck
    | none => .stuck
  | _, _, _ => .stuck
def fldO (i : Nat) (c' f : Str) (d : D) (ρ : En) : Out Unit En := match ρ[i]? with
  | some (some d0) => match d0.mv with
    | some (.ins c fs) => if c = c' ∧ fs.length < 1000 then .ok () (ρ.set i (some (d0.putM (.ins c (putD f d fs))))) else .stuck
    | _ => .stuck
  | _ => .stuck
def enuO : D → En → Out (List D) En
  | .tup ds, ρ => .ok (enumD ds) ρ
  | _, _ => .stuck
def augO (op : Operator) : D → D → En → OE
  | .int a, .int b, ρ => lift ((intOp op a b).map D.int) ρ
  | _, _, _ => .stuck
variable (C : Cal)
def binO (op : Operator) (x y : D) (ρ : En) : OE := match x with
  | .ins c fs => match y with
    | .ins c' gs => if c = c' then back ρ none (C (.m c (PySem.dunder op.info.2)) [x, y]) else .stuck
    | .int i => if op = .Mult then back ρ none (C (.m c (PySem.dunder op.info.2)) [x, y]) else .stuck
    | _ => .stuck
  | _ => lift (opD op x y) ρ
def unO (op : UnaryOp) (x : D) (ρ : En) : OE := match x, op with
  | .ins c fs, .USub => back ρ none (C (.m c "__neg__") [x])
  | .ins c fs, .Invert => back ρ none (C (.m c "__invert__") [x])
  | _, _ => lift (unD op x) ρ
def asB (o : OE) : Out Bool En := o.bind theB
def cmpO (op : CmpOp) (x y : D) (ρ : En) : Out Bool En := match y with
  | .ins c gs => match op with
    | .Eq => match x with
      | .ins c' fs => if c' = c then asB (back ρ none (C (.m c "__eq__") [x, y])) else .stuck
      | _ => .stuck
    | .NotEq => match x with
      | .ins c' fs => if c' = c then (asB (back ρ none (C (.m c "__eq__") [x, y]))).bind fun k ρ => .ok (!k) ρ else .stuck
      | _ => .stuck
    | .In => asB (back ρ none (C (.m c "__contains__") [y, x]))
    | .NotIn => (asB (back ρ none (C (.m c "__contains__") [y, x]))).bind fun k ρ => .ok (!k) ρ
    | _ => .stuck
  | _ => lift (cmpD op x y) ρ
def lenO : D → En → OE
  | .int n, ρ => if 0 ≤ n ∧ n < 2 ^ 63 then .ok (.int n) ρ else .stuck
  | _, _ => .stuck
def strO : D → En → OE
  | .str z, ρ => .ok (.str z) ρ
  | _, _ => .stuck
def bltO (f : Bf) (ds : List D) (ρ : En) : OE := match ds with
  | [.ins c fs] => match f with
    | .len => (back ρ none (C (.m c "__len__") ds)).bind lenO
    | .str => (back ρ none (C (.m c "__str__") ds)).bind strO
    | .repr => (back ρ none (C (.m c "__repr__") ds)).bind strO
    | _ => .stuck
  | _ => lift (bltD f ds) ρ
def fldG (x : D) (f : Str) (ρ : En) : OE := match x with
  | .ins c fs => lift (fs.lookup f) ρ
  | _ => .stuck
def prpO (x : D) (f : Str) (ρ : En) : OE := match x with
  | .ins c fs => back ρ none (C (.p c f) [x])
  | _ => .stuck
def metO (x : D) (m : Str) (ds : List D) (ρ : En) : OE := match x with
  | .ins c fs => back ρ none (C (.m c m) (x :: ds))
  | _ => .stuck
def makO (c : Str) (ds : List D) (ρ : En) : OE := match C (.i c) (.bor (.ins c []) :: ds) with
  | .ok .non [m] => .ok (.own m) ρ
  | _ => .stuck
def raiO (c : Str) (ds : List D) (ρ : En) : Out Flow En := match C (.i c) (.bor (.ins c []) :: ds) with
  | .ok .non [.ins c fs] => .exn (.ins c fs) ρ
  | _ => .stuck
def calO (f : FK) (as : List Ag) (df : List D) (ρ : En) : OE := match bindAg ρ as with
  | some (ds, l) => back ρ l (C f (ds ++ df))
  | none => .stuck
def rngD : List D → Option (List D)
  | [.int j] => if -(2 ^ 62) ≤ j ∧ j < 2 ^ 62 then some (rng 0 j.toNat) else none
  | [.int i, .int j] => if -(2 ^ 62) ≤ i ∧ i < 2 ^ 62 ∧ -(2 ^ 62) ≤ j ∧ j < 2 ^ 62 then some (rng i (j - i).toNat) else none
  | _ => none
def levO (i : Nat) (ρ : En) : OE := match keptAt i ρ with
  | some xs => .ok (.int xs.length) ρ
  | none => (getVar i ρ).bind fun x ρ => bltO C .len [x.fz] ρ
def itemsD : D → Option (List D)
  | .tup ds => some ds
  | d => d.items
/-- the arguments handed in, where there are no names that keep a list -/
def kwO (kn : List Str) (ps : List Str) (ds ks : List D) : Option (List D) := if kn = [] then some ds else none
mutual
def evE : IE → En → OE
  | .cst d, ρ => .ok d ρ
  | .var i, ρ => getVar i ρ
  | .glb x, ρ => .stuck
  | .bin op a b, ρ => (evE a ρ).bind fun x ρ => (evE b ρ).bind fun y ρ => binO C op x.fz y.fz ρ
  | .una op a, ρ => (evE a ρ).bind fun x ρ => unO C op x.fz ρ
  | .not a, ρ => (evE a ρ).bind fun x ρ => notO x ρ
  | .cmp op a b, ρ => (evE a ρ).bind fun x ρ => (evE b ρ).bind fun y ρ => (cmpO C op x.fz y.fz ρ).bind fun k ρ => .ok (.bl k) ρ
  | .chn op op' a b c, ρ => (evE a ρ).bind fun x ρ => (evE b ρ).bind fun y ρ => (cmpO C op x.fz y.fz ρ).bind fun k ρ =>
      if k = true then (evE c ρ).bind fun z ρ => (cmpO C op' y.fz z.fz ρ).bind fun k ρ => .ok (.bl k) ρ else .ok (.bl false) ρ
  | .and a b, ρ => (evE a ρ).bind fun x ρ => (theB x ρ).bind fun k ρ => if k = true then evE b ρ else .ok (.bl false) ρ
  | .or a b, ρ => (evE a ρ).bind fun x ρ => (theB x ρ).bind fun k ρ => if k = true then .ok (.bl true) ρ else evE b ρ
  | .ife c a b, ρ => (evT c ρ).bind fun k ρ => if k = true then evE a ρ else evE b ρ
  | .tup es, ρ => (evL es ρ).bind fun ds ρ => if ds.length ≤ sizeLine then .ok (.tup ds) ρ else .stuck
  | .lst es, ρ => (evL es ρ).bind fun ds ρ => if ds.length ≤ sizeLine then .ok (.own (.lst ds)) ρ else .stuck
  | .idx a b, ρ => (evE a ρ).bind fun x ρ => (evE b ρ).bind fun y ρ => lift (idxD x.fz y.fz) ρ
  | .idv i b, ρ => if (keptAt i ρ).isSome = true then (evE b ρ).bind fun y ρ => idvO i y ρ
      else (getVar i ρ).bind fun x ρ => (evE b ρ).bind fun y ρ => lift (idxD x.fz y.fz) ρ
  | .lev i, ρ => levO C i ρ
  | .slc a lo hi, ρ => (evE a ρ).bind fun x ρ => (evP lo ρ).bind fun l ρ => (evP hi ρ).bind fun u ρ => lift (slcD x.fz l u) ρ
  | .blt f es, ρ => (evL es ρ).bind fun ds ρ => bltO C f ds ρ
  | .cal f es df, ρ => (evA es ρ).bind fun as ρ => calO C (.f f) as df ρ
  | .cas f g es ks, ρ => (evA es ρ).bind fun as ρ => (calO C (.f g) as [] ρ).bind fun d ρ => (lendO d ρ).bind fun m ρ => (evL ks ρ).bind fun ds ρ => back ρ none (C (.f f) (.bor m :: ds))
  | .mak c es df, ρ => (evL es ρ).bind fun ds ρ => makO C c (ds ++ df) ρ
  | .fld a f, ρ => (evE a ρ).bind fun x ρ => fldG x.fz f ρ
  | .prp a f, ρ => (evE a ρ).bind fun x ρ => prpO C x.fz f ρ
  | .met a m es kn ks, ρ => (evE a ρ).bind fun x ρ => (evL es ρ).bind fun ds ρ => (evL ks ρ).bind fun us ρ => metO C x.fz m (ds ++ us) ρ
  | .bme a m es, ρ => (evE a ρ).bind fun x ρ => (evL es ρ).bind fun ds ρ => lift (metD m x.fz ds) ρ
  | .app i e, ρ => if (keptAt i ρ).isSome = true then (evE e ρ).bind fun y ρ => appO i y.fz ρ else .stuck
  | .pop i e, ρ => if (keptAt i ρ).isSome = true then (evE e ρ).bind fun y ρ => popO i y ρ else .stuck
  | .lcm elt vs tg it cnd, ρ => (evI it ρ).bind fun xs ρ => if xs.length ≤ sizeLine then
      (lcD (fun x ρ => (asgG tg x (wipeE ρ vs)).bind fun _ ρ => (evC cnd ρ).bind fun k ρ =>
        if k = true then (evE elt ρ).bind fun y ρ => .ok (some y.fz) (wipeE ρ vs) else .ok none (wipeE ρ vs)) xs ρ).bind fun ys ρ => .ok (.own (.lst ys)) ρ else .stuck
/-- a test -/
def evT : IT → En → Out Bool En
  | .of e, ρ => (evE e ρ).bind fun x ρ => lift (truD x.fz) ρ
  | .not a, ρ => (evT a ρ).bind fun k ρ => .ok (!k) ρ
  | .and a b, ρ => (evT a ρ).bind fun k ρ => if k = true then evT b ρ else .ok false ρ
  | .or a b, ρ => (evT a ρ).bind fun k ρ => if k = true then .ok true ρ else evT b ρ
  | .cmp op a b, ρ => (evE a ρ).bind fun x ρ => (evE b ρ).bind fun y ρ => cmpO C op x.fz y.fz ρ
  | .chn op op' a b c, ρ => (evE a ρ).bind fun x ρ => (evE b ρ).bind fun y ρ => (cmpO C op x.fz y.fz ρ).bind fun k ρ =>
      if k = true then (evE c ρ).bind fun z ρ => cmpO C op' y.fz z.fz ρ else .ok false ρ
/-- values in a row -/
def evL : List IE → En → Out (List D) En
  | [], ρ => .ok [] ρ
  | e :: es, ρ => (evE e ρ).bind fun x ρ => (evL es ρ).bind fun xs ρ => .ok (x.fz :: xs) ρ
def evP : Option IE → En → Out (Option Int) En
  | none, ρ => .ok none ρ
  | some e, ρ => (evE e ρ).bind fun x ρ => theI x ρ
def evC : Option IT → En → Out Bool En
  | none, ρ => .ok true ρ
  | some e, ρ => evT e ρ
/-- arguments of a def -/
def evA : List IA → En → Out (List Ag) En
  | [], ρ => .ok [] ρ
  | e :: es, ρ => (evA1 e ρ).bind fun x ρ => (evA es ρ).bind fun as ρ => .ok (x :: as) ρ
def evA1 : IA → En → Out Ag En
  | .of e, ρ => (evE e ρ).bind fun x ρ => .ok (.d x.fz) ρ
  | .var i, ρ => if (mvAt i ρ).isSome = true then .ok (.len i) ρ else (getVar i ρ).bind fun x ρ => .ok (.d x.fz) ρ
def evI : II → En → Out (List D) En
  | .of e, ρ => (evE e ρ).bind fun x ρ => lift (itemsD x.fz) ρ
  | .rng es, ρ => (evL es ρ).bind fun ds ρ => lift (rngD ds) ρ
  | .enu e, ρ => (evE e ρ).bind fun x ρ => enuO x.fz ρ
def asgG : IG → D → En → Out Unit En
  | .nm i, d, ρ => if i < ρ.length then .ok () (ρ.set i (some d)) else .stuck
  | .tp ts, d, ρ => match d with
    | .tup ds => asgL ts ds ρ
    | _ => .stuck
  | .sub i e, d, ρ => if (keptAt i ρ).isSome = true then (evE e ρ).bind fun y ρ => subO i y d ρ else .stuck
  | .att i c f, d, ρ => fldO i c f d ρ
def asgL : List IG → List D → En → Out Unit En
  | [], ds, ρ => if ds = [] then .ok () ρ else .stuck
  | t :: ts, ds, ρ => match ds with
    | d :: ds => (asgG t d ρ).bind fun _ ρ => asgL ts ds ρ
    | [] => .stuck
end
/-- a name is stored: a new list stays the slot's own -/
def stoD (i : Nat) (d : D) (ρ : En) : Out Flow En := if i < ρ.length then .ok .nx (ρ.set i (some d)) else .stuck
/-- what comes behind a statement -/
def thenF : Out Flow En → (En → Out Flow En) → Out Flow En
  | .ok .nx ρ, k => k ρ
  | o, _ => o
mutual
def evS : IS → En → Out Flow En
  | .stk, _ => .stuck
  | .pass, ρ => .ok .nx ρ
  | .brk, ρ => .ok .bk ρ
  | .cnt, ρ => .ok .ct ρ
  | .ret none, ρ => .ok (.ret .non) ρ
  | .ret (some e), ρ => (evE C e ρ).bind fun d ρ => .ok (.ret d) ρ
  | .expr e, ρ => (evE C e ρ).bind fun _ ρ => .ok .nx ρ
  | .set i e, ρ => (evE C e ρ).bind fun d ρ => stoD i d ρ
  | .asg t e, ρ => (evE C e ρ).bind fun d ρ => (asgG C t d.fz ρ).bind fun _ ρ => .ok .nx ρ
  | .aug i op e, ρ => (getVar i ρ).bind fun x ρ => (evE C e ρ).bind fun y ρ => (augO op x y ρ).bind fun c ρ => stoD i c ρ
  | .ite c a b, ρ => (evT C c ρ).bind fun k ρ => if k = true then evB a ρ else evB b ρ
  | .for t it body, ρ => (evI C it ρ).bind fun xs ρ => forD (fun x ρ => (asgG C t x ρ).bind fun _ ρ => evB body ρ) xs ρ
  | .whl c body, ρ => whlD (evT C c) (evB body) turnsMost ρ
  | .rai c es, ρ => (evL C es ρ).bind fun ds ρ => raiO C c ds ρ
def evB : List IS → En → Out Flow En
  | [], ρ => .ok .nx ρ
  | s :: ss, ρ => thenF (evS s ρ) (evB ss)
end
/-- a def's end -/
def fin (ds : List D) : Out Flow En → Out D (List MV)
  | .ok (.ret d) ρ => .ok d (outs ds ρ)
  | .ok .nx ρ => .ok .non (outs ds ρ)
  | .exn x ρ => .exn x (outs ds ρ)
  | _ => .stuck
def startN (ns : Nat) (ds : List D) : En := ds.map some ++ List.replicate (ns - ds.length) none
abbrev Tab := FK → Option Fn
def run (T : Tab) : Nat → Cal
  | 0, _, _ => .stuck
  | n + 1, f, ds => match T f with
    | some fn => if ds.length = fn.np then fin ds (evB (run T n) fn.body (startN fn.ns ds)) else .stuck
    | none => .stuck
end Ev

end
section -- E2
set_option maxRecDepth 100000
set_option maxHeartbeats 4000000
/-! From the program's syntax to pieces that are worth something. -/
namespace Ev
open PySem Dx

/-- what a name of the module stands for -/
inductive GK where
  | blt (b : Bf) | bty (b : Bf) (s : String) | fn (mu : List Bool) (dfl : List D) | cls (np : Nat) (dfl : List D) | int (k : Int)
structure SC where
  N : List Str
  sc : Scope
  G : Str → Option GK
  /-- an attribute that an instance holds (true), a property -/
  A : Str → Option Bool
  /-- the name of a method's first argument -/
  P : Str → Option Str
  /-- the class that a method stands in -/
  c : Option Str
  /-- in a comprehension's block -/
  blk : Bool
def nmOk (x : Str) : Bool := !(x == ("__debug__" : Str)) && !(x == ("__classdict__" : Str))
def visB (s : SC) (x : Str) : Bool := nmOk x && (s.sc.names.lookup x == some .local || s.sc.names.lookup x == some .cell || s.sc.names.lookup x == some .free)
def locB (s : SC) (x : Str) : Bool := s.sc.names.lookup x == some .local || s.sc.names.lookup x == some .cell
def gloB (s : SC) (x : Str) : Bool := nmOk x && s.sc.names.lookup x == some .globalImplicit
def ixOf (x : Str) : List Str → Nat → Option Nat
  | [], _ => none
  | y :: ys, i => if y = x then some i else ixOf x ys (i + 1)
def slotOf (s : SC) (x : Str) : Option Nat := if visB s x then ixOf x s.N 0 else none
def globOf (s : SC) (x : Str) : Option GK := if gloB s x then s.G x else none
def isStar : Expr → Bool
  | .Starred _ _ => true
  | _ => false
/-- super() apart -/
def plainBase : Expr → Bool
  | .Call _ _ _ _ => true
  | _ => true
def isBool : Expr → Bool
  | .BoolOp _ _ _ => true | .UnaryOp .Not _ _ => true | .Compare _ _ _ _ => true | .IfExp _ _ _ _ => true
  | _ => false
def isSuper : Expr → Bool
  | .Call (.Name x _) [] [] _ => true
  | _ => false
def plainIx : Expr → Bool
  | .Slice _ _ _ _ => false
  | _ => true
def isComp : Expr → Bool
  | .ListComp _ _ _ _ => true | .SetComp _ _ _ _ => true | .DictComp _ _ _ _ _ => true
  | _ => false
def isSetD : Expr → Bool
  | .Set _ _ _ => true
  | _ => false
def optAll {α : Type} : List (Option α) → Option (List α)
  | [] => some []
  | none :: _ => none
  | some a :: r => (optAll r).map (a :: ·)
def isNameE : Expr → Option Str
  | .Name x _ => some x
  | _ => none
def bmOf (m : Str) : Option Bm :=
  if m = "bit_length" then some .bitLength else if m = "join" then some .join else if m = "split" then some .split else if m = "endswith" then some .endswith
  else if m = "get" then some .get else if m = "count" then some .count else if m = "index" then some .index else if m = "removesuffix" then some .removesuffix
  else if m = "isdecimal" then some .isdecimal else if m = "replace" then some .replace else if m = "partition" then some .partition else if m = "find" then some .find
  else if m = "upper" then some .upper else if m = "values" then some .values else none
/-- the names of a target -/
def tgNames : Expr → List Str
  | .Name x _ => [x]
  | .Tuple es _ _ => es.filterMap isNameE
  | _ => []
/-- the slots of a block's own names -/
def ownOf (N : List Str) (scope : Scope) : List (Str × Nat) :=
  scope.names.filterMap fun (x, k) => if k = .local ∨ k = .cell then (ixOf x N 0).map fun i => (x, i) else none
/-- a, b = x, y: how the stores come -/
def isTup : Expr → Option (List Expr)
  | .Tuple es _ _ => some es
  | _ => none
/-- a comprehension's names are its own, or captured -/
def blkB (s : SC) (scope : Scope) : Bool := Sx.blkN s.N s.sc scope ((ownOf s.N scope).map (·.1))
/-- the defaults that are wanting -/
def dflOf (np k : Nat) (dfl : List D) : Option (List D) := if k ≤ np ∧ np - k ≤ dfl.length then some (dfl.drop (dfl.length - (np - k))) else none
mutual
def cE : Nat → SC → Expr → Option IE
  | 0, _, _ => none
  | n + 1, s, e => match e with
    | .Constant c _ _ => match c with
      | .none => some (.cst .non)
      | .bool b => some (.cst (.bl b))
      | .int i => some (.cst (.int i))
      | .str x => some (.cst (.str x))
      | _ => none
    | .Name x _ => match slotOf s x with
      | some i => some (.var i)
      | none => match globOf s x with
        | some (.bty _ T) => some (.cst (.ty T))
        | some (.int k) => some (.cst (.int k))
        | some (.cls _ _) => some (.cst (.gl x))
        | some (.fn _ _) => some (.cst (.fn x))
        | _ => none
    | .BinOp a op b _ => match cE n s a, cE n s b with
      | some a, some b => some (.bin op a b)
      | _, _ => none
    | .UnaryOp op a _ => match op, cE n s a with
      | .Not, some a => some (.not a)
      | op, some a => some (.una op a)
      | _, _ => none
    | .Compare a [op] [b] _ => if isSetD b then none else match cE n s a, cE n s b with
      | some a, some b => some (.cmp op a b)
      | _, _ => none
    | .Compare a [op, op'] [b, c] _ => if isSetD b || isSetD c then none else match cE n s a, cE n s b, cE n s c with
      | some a, some b, some c => some (.chn op op' a b c)
      | _, _, _ => none
    | .BoolOp op [a] _ => cE n s a
    | .BoolOp op (a :: b :: es) pos => match op, cE n s a, cE n s (.BoolOp op (b :: es) pos) with
      | .And, some a, some b => some (.and a b)
      | .Or, some a, some b => some (.or a b)
      | _, _, _ => none
    | .IfExp c a b _ => match cT n s c, cE n s a, cE n s b with
      | some c, some a, some b => some (.ife c a b)
      | _, _, _ => none
    | .Tuple es _ _ => if es.any isStar then none else (optAll (es.map (cE n s))).map .tup
    | .List es _ => if es.any isStar then none else (optAll (es.map (cE n s))).map .lst
    | .Subscript a (.Slice lo hi none _) _ => match cE n s a, cO n s lo, cO n s hi with
      | some a, some lo, some hi => some (.slc a lo hi)
      | _, _, _ => none
    | .Subscript a b _ => if plainIx b then match isNameE a with
        | some x => match slotOf s x, cE n s b with
          | some i, some b => some (.idv i b)
          | _, _ => none
        | none => match cE n s a, cE n s b with
          | some a, some b => some (.idx a b)
          | _, _ => none
      else none
    | .Attribute a f _ => if isSuper a then none else match s.A f, cE n s a with
      | some true, some a => some (.fld a f)
      | some false, some a => some (.prp a f)
      | _, _ => none
    | .Call (.Name x _) es [] _ => if es.any isStar || es.isEmpty then none else match globOf s x with
      | some (.blt .len) => match es with
        | [.Name y _] => (slotOf s y).map .lev
        | es => (optAll (es.map (cE n s))).map (.blt .len)
      | some (.blt b) => (optAll (es.map (cE n s))).map (.blt b)
      | some (.bty b _) => (optAll (es.map (cE n s))).map (.blt b)
      | some (.fn mu dfl) => match mu, es with
        | true :: _, .Call (.Name g _) es' [] _ :: ks => if es'.any isStar || es'.isEmpty then none else match globOf s g with
          | some (.fn mu' _) => match cA n s mu' es', optAll (ks.map (cE n s)) with
            | some es', some ks => some (.cas x g es' ks)
            | _, _ => none
          | _ => none
        | _, _ => match dflOf mu.length es.length dfl, cA n s mu es with
          | some df, some es => some (.cal x es df)
          | _, _ => none
      | some (.cls np dfl) => match dflOf np es.length dfl, optAll (es.map (cE n s)) with
        | some df, some es => some (.mak x es df)
        | _, _ => none
      | _ => none
    | .Call (.Attribute o m apos) es kws pos => if es.any isStar || isSuper o || !(apos.endLine == pos.line && es.length + kws.length + 1 < 30 && kws.all fun k => k.arg.isSome) then none else match isNameE o, m, es, kws with
      | some x, m, [e], [] => if m = "append" then match slotOf s x, cE n s e with
          | some i, some e => some (.app i e)
          | _, _ => none
        else if m = "pop" then match slotOf s x, cE n s e with
          | some i, some e => some (.pop i e)
          | _, _ => none
        else cM n s o m es kws
      | _, _, _, _ => cM n s o m es kws
    | .ListComp elt [⟨tg, iter, ifs, 0⟩] scope _ => if isSetD iter || !blkB s scope then none else
      let own := ownOf s.N scope
      let t : SC := { s with sc := scope, blk := true }
      match cG n t tg, cI n s (isTup tg).isSome iter, cE n t elt, (match ifs with | [] => some none | [c] => (cT n t c).map some | _ => none) with
      | some tg, some it, some elt, some c => some (.lcm elt (own.map (·.2)) tg it c)
      | _, _, _, _ => none
    | _ => none
def cM : Nat → SC → Expr → Str → List Expr → List Keyword → Option IE
  | 0, _, _, _, _, _ => none
  | n + 1, s, o, m, es, kws => match bmOf m with
    | some b => if kws.isEmpty then match cE n s o, optAll (es.map (cE n s)) with
      | some o, some es => some (.bme o b es)
      | _, _ => none
      else none
    | none => match kws with
      | [] => match cE n s o, optAll (es.map (cE n s)) with
        | some o, some es => some (.met o m es [] [])
        | _, _ => none
      | [⟨some kw, e, _⟩] => if es.isEmpty && s.P m == some kw then match cE n s o, cE n s e with
        | some o, some e => some (.met o m [] [kw] [e])
        | _, _ => none
        else none
      | _ => none
def cO : Nat → SC → Option Expr → Option (Option IE)
  | 0, _, _ => none
  | n + 1, s, none => some none
  | n + 1, s, some e => (cE n s e).map some
def cA : Nat → SC → List Bool → List Expr → Option (List IA)
  | 0, _, _, _ => none
  | n + 1, s, mu, [] => some []
  | n + 1, s, mu, e :: es => match (match isNameE e with
      | some x => if mu.head? = some true then (slotOf s x).map IA.var else (cE n s e).map .of
      | none => (cE n s e).map .of), cA n s mu.tail es with
    | some a, some r => some (a :: r)
    | _, _ => none
def cT : Nat → SC → Expr → Option IT
  | 0, _, _ => none
  | n + 1, s, e => match e with
    | .UnaryOp .Not a _ => (cT n s a).map .not
    | .Compare a [op] [b] _ => if isSetD b then none else match cE n s a, cE n s b with
      | some a, some b => some (.cmp op a b)
      | _, _ => none
    | .Compare a [op, op'] [b, c] _ => if isSetD b || isSetD c then none else match cE n s a, cE n s b, cE n s c with
      | some a, some b, some c => some (.chn op op' a b c)
      | _, _, _ => none
    | .BoolOp op [a] _ => cT n s a
    | .BoolOp op (a :: b :: es) pos => match op, cT n s a, cT n s (.BoolOp op (b :: es) pos) with
      | .And, some a, some b => some (.and a b)
      | .Or, some a, some b => some (.or a b)
      | _, _, _ => none
    | .IfExp _ _ _ _ => none
    | .Compare _ _ _ _ => none
    | .BoolOp _ _ _ => none
    | e => (cE n s e).map .of
def cI : Nat → SC → Bool → Expr → Option II
  | 0, _, _, _ => none
  | n + 1, s, tp, e => match e with
    | .Call (.Name x fp) es [] pos => if gloB s x && x == ("range" : Str) && !(es.any isStar) && !es.isEmpty then (optAll (es.map (cE n s))).map .rng
      else if gloB s x && x == ("enumerate" : Str) then match es with
        | [e] => if isStar e || !tp then none else (cE n s e).map .enu
        | _ => none
      else (cE n s (.Call (.Name x fp) es [] pos)).map .of
    | e => (cE n s e).map .of
def cG : Nat → SC → Expr → Option IG
  | 0, _, _ => none
  | n + 1, s, e => match e with
    | .Name x _ => if locB s x && (!s.blk || s.sc.names.lookup x == some .local || s.sc.names.lookup x == some .cell) then (ixOf x s.N 0).map .nm else none
    | .Tuple es _ _ => if es.any isStar then none else (optAll (es.map (cG n s))).map .tp
    | .Subscript o i _ => if s.blk || !plainIx i then none else match isNameE o with
      | some x => match slotOf s x, cE n s i with
        | some j, some i => some (.sub j i)
        | _, _ => none
      | none => none
    | _ => none
end
/-- the names of a tuple that are stored one by one -/
def swpOf (sc : Scope) (ts vs : List Expr) : Option (Option (List Str)) :=
  if (!(ts.length == 2 || ts.length == 3) || vs.length != ts.length) = true then some none
  else if vs.any isStar = true then some none
  else
    let line := (ts.head?.map fun x => x.pos.line).getD 0
    let names := ts.filterMap fun x => match x with
      | .Name id pos => if (sc.names.lookup id == some .local && pos.line == line) = true then some id else none
      | _ => none
    if (names.length != ts.length || names.eraseDups.length != names.length) = true then some none
    else if vs.all (foldedForSure 8) = true then some none
    else if vs.all (constantsAlone 8) = true then none
    else some (some names)
def tupPair : Expr → Expr → Option (List Expr × List Expr)
  | .Tuple ts _ _, .Tuple vs _ _ => some (ts, vs)
  | _, _ => none
def swpOk (sc : Scope) (t e : Expr) : Bool := match tupPair t e with
  | some (ts, vs) => (swpOf sc ts vs).isSome
  | none => true
def augOk : Operator → Bool
  | .Add => true | .Sub => true | _ => false
mutual
def cS : Nat → SC → Stmt → Option IS
  | 0, _, _ => none
  | n + 1, s, st => match st with
    | .Pass _ => some .pass
    | .Break _ => some .brk
    | .Continue _ => some .cnt
    | .Return none _ => some (.ret none)
    | .Return (some e) _ => (cE n s e).map fun e => .ret (some e)
    | .Expr e _ => if isComp e then none else (cE n s e).map .expr
    | .Assign [.Name x _] e _ => if locB s x then match ixOf x s.N 0, cE n s e with
        | some i, some e => some (.set i e)
        | _, _ => none
      else none
    | .Assign [.Attribute (.Name x _) f _] e _ => if isComp e then none else match s.A f, s.c, slotOf s x, cE n s e with
      | some true, some c, some i, some e => some (.asg (.att i c f) e)
      | _, _, _, _ => none
    | .Assign [t] e _ => if isComp e || !swpOk s.sc t e then none else match cG n s t, cE n s e with
      | some t, some e => some (.asg t e)
      | _, _ => none
    | .AugAssign (.Name x _) op e _ => if locB s x && nmOk x && augOk op then match ixOf x s.N 0, cE n s e with
        | some i, some e => some (.aug i op e)
        | _, _ => none
      else none
    | .If c a b _ => match cT n s c, cB n s a, cB n s b with
      | some c, some a, some b => some (.ite c a b)
      | _, _, _ => none
    | .For t it body [] _ => if isSetD it then none else match cG n s t, cI n s (isTup t).isSome it, cB n s body with
      | some t, some it, some body => some (.for t it body)
      | _, _, _ => none
    | .Raise (some (.Call (.Name x _) es [] _)) none _ => if es.any isStar then none else match globOf s x with
      | some (.cls _ _) => (optAll (es.map (cE n s))).map (.rai x)
      | _ => none
    | .While c body [] _ => match cT n s c, cB n s body with
      | some c, some body => some (.whl c body)
      | _, _ => none
    | _ => none
def cB : Nat → SC → List Stmt → Option (List IS)
  | 0, _, _ => none
  | n + 1, s, [] => some []
  | n + 1, s, st :: r => (cB n s r).map fun b => (cS n s st).getD .stk :: b
end
end Ev

end
section -- E3
set_option maxRecDepth 100000
set_option maxHeartbeats 4000000
/-! What the pieces are worth is what the program does: the syntax. -/
namespace Ev
open PySem PySem.Spec L2 Sx Dx
open PyProof.Rows hiding St

theorem star_cons {e : Expr} {es : List Expr} {env : Env} (h : isStar e = false) : starEach (e :: es) env = (false, eval e env) :: starEach es env := by
  cases e <;> first | rfl | cases h
theorem star_map {env : Env} : ∀ {es : List Expr}, es.any isStar = false → starEach es env = es.map fun e => (false, eval e env)
  | [], _ => rfl
  | e :: es, h => by
    rw [List.any_cons, Bool.or_eq_false_iff] at h
    rw [star_cons h.1, star_map h.2]
    rfl
theorem star_plain {env : Env} {pos : Pos} {es : List Expr} (h : es.any isStar = false) : (backTo pos (starEach es env)).any (·.1) = false := by
  rw [star_map h]
  unfold backTo
  rw [List.map_map, List.any_map]
  induction es with
  | nil => rfl
  | cons e es ih =>
    rw [List.any_cons, Bool.or_eq_false_iff] at h
    rw [List.any_cons, ih h.2]
    rfl
theorem star_nostar {env : Env} {pos : Pos} {es : List Expr} (h : es.any isStar = false) : ((backTo pos (starEach es env)).all fun x => !x.1) = true := by
  have := star_plain (env := env) (pos := pos) h
  rw [List.all_eq_not_any_not]
  simpa using this
theorem asg_cons {e : Expr} {es : List Expr} {env : Env} (h : isStar e = false) : (assignEach (e :: es) env) = (false, assign e env) :: assignEach es env := by
  cases e <;> first | rfl | cases h
theorem asg_len {env : Env} : ∀ {es : List Expr}, es.any isStar = false → (assignEach es env).length = es.length ∧ (assignEach es env).findIdx? (·.1) = none
  | [], _ => ⟨rfl, rfl⟩
  | e :: es, h => by
    rw [List.any_cons, Bool.or_eq_false_iff] at h
    obtain ⟨h1, h2⟩ := asg_len (env := env) h.2
    rw [asg_cons h.1]
    refine ⟨by simp [h1], ?_⟩
    rw [List.findIdx?_cons, h2]
    rfl
theorem swaps_no {e : Expr} {t : Option Expr} {l : Nat} {env : Env} (h : isComp e = false) : swapsWith e t l env = pure false := by
  cases e <;> first | rfl | cases h
theorem swapsS_no {e t : Expr} {l : Nat} {env : Env} (h : isComp e = false) : swapsWithSole [t] e l env = pure false := swaps_no h
theorem plain_ix {b : Expr} (h : plainIx b = true) : PlainIx b := by
  cases b <;> first | exact fun _ _ => rfl | cases h
theorem marks_no {b : Expr} {op : CmpOp} (h : isSetD b = false) : behindInMarks op b = false := by
  cases b <;> first | rfl | cases h
theorem marks2_no {b c : Expr} {op op' : CmpOp} (h : isSetD c = false) : lastMarks [op, op'] [b, c] = false := by
  show lastMarks [op'] [c] = false
  exact marks_no h
theorem base_no {o : Expr} {a : Str} {env : Env} (h : isSuper o = false) : attributeBase o a env (eval o env) = eval o env := by
  unfold attributeBase
  split
  · cases h
  · rfl
theorem folded_no {e : Expr} {env : Env} (h : isSetD e = false) : ∀ x, foldedSetIterable e env x = pure x := by
  intro x
  cases e <;> first | rfl | cases h
theorem truth_no {e : Expr} {env : Env} (h : isBool e = false) : ∀ whole, isTrue e env whole = (do let v ← whole; standAt e.pos; holding [v] (truthy v)) := by
  intro whole
  cases e with
  | UnaryOp op a pos => cases op <;> first | rfl | cases h
  | _ => first | rfl | cases h
theorem relabel_look {env : Env} {x : Str} : ∀ {names : List (Str × NameKind)} {k : NameKind}, names.lookup x = some k →
    (names.map fun (n, k) => if (k == NameKind.free && env.scope.kind == .function && env.kindOf n == some .cell) then (n, NameKind.cell) else (n, k)).lookup x = some k ∨
    (k = .free ∧ (names.map fun (n, k) => if (k == NameKind.free && env.scope.kind == .function && env.kindOf n == some .cell) then (n, NameKind.cell) else (n, k)).lookup x = some .cell)
  | [], _, h => by simp at h
  | (n, j) :: r, k, h => by
    rw [List.lookup_cons] at h
    rw [List.map_cons]
    have ih := fun h => @relabel_look env x r k h
    cases hc : (j == NameKind.free && env.scope.kind == .function && env.kindOf n == some .cell) with
    | true =>
      simp only [hc, if_true]
      rw [List.lookup_cons]
      cases hx : x == n with
      | true =>
        rw [hx] at h
        cases h
        rw [Bool.and_eq_true, Bool.and_eq_true] at hc
        exact .inr ⟨eq_of_beq hc.1.1, rfl⟩
      | false =>
        rw [hx] at h
        exact ih h
    | false =>
      simp only [hc, Bool.false_eq_true, if_false]
      rw [List.lookup_cons]
      cases hx : x == n with
      | true =>
        rw [hx] at h
        cases h
        exact .inl rfl
      | false =>
        rw [hx] at h
        exact ih h
theorem ixOf_get {x : Str} : ∀ {N : List Str} {k i : Nat}, ixOf x N k = some i → k ≤ i ∧ N[i - k]? = some x
  | [], _, _, h => by cases h
  | y :: ys, k, i, h => by
    unfold ixOf at h
    split at h
    · rename_i e
      cases h
      subst e
      exact ⟨Nat.le_refl _, by simp⟩
    · obtain ⟨h1, h2⟩ := ixOf_get h
      refine ⟨by omega, ?_⟩
      have e : i - k = (i - (k + 1)) + 1 := by omega
      rw [e, List.getElem?_cons_succ]
      exact h2
theorem ixOf0 {x : Str} {N : List Str} {i : Nat} (h : ixOf x N 0 = some i) : N[i]? = some x := (ixOf_get h).2
/-- where one stands in the text -/
structure Here (s : SC) (X : Cx) : Prop where
  N : X.N = s.N
  nd : s.N.Nodup
  vis : ∀ x, visB s x = true → Vis X.env.scope x
  loc : ∀ x, locB s x = true → L2.Loc X.env.scope x ∧ (X.fn x = true ∨ X.env.scope.names.lookup x = some .local)
  glo : ∀ x, gloB s x = true → Gl X x
  fre : ∀ x, s.sc.names.lookup x = some .cell ∨ s.sc.names.lookup x = some .free → X.env.scope.names.lookup x = some .cell ∨ X.env.scope.names.lookup x = some .free
  pass : s.blk = false → PassesOwn (model X.prog X.w) X.A X.env X.xe
  sc : s.blk = false → X.env.scope = s.sc ∧ s.sc.kind = .function
theorem nm_ok {x : Str} (h : nmOk x = true) : (x == ("__debug__" : Str)) = false ∧ (x == ("__classdict__" : Str)) = false := by
  unfold nmOk at h
  simpa using h
theorem vis_of {sc : Scope} {x : Str} (h : (sc.names.lookup x == some .local || sc.names.lookup x == some .cell || sc.names.lookup x == some .free) = true) : Vis sc x := by
  unfold Vis
  simpa [or_assoc] using h
/-- at the start of a def -/
theorem here_def {s : SC} {X : Cx} (hN : X.N = s.N) (nd : s.N.Nodup) (hs : X.env.scope = s.sc) (hk : s.sc.kind = .function) (hf : ∀ x, X.fn x = true) (hp : PassesOwn (model X.prog X.w) X.A X.env X.xe) : Here s X where
  N := hN
  nd := nd
  vis := fun x h => by
    unfold visB at h
    rw [Bool.and_eq_true] at h
    rw [hs]; exact vis_of h.2
  loc := fun x h => by
    unfold locB at h
    refine ⟨?_, .inl (hf x)⟩
    unfold L2.Loc
    rw [hs]
    simpa using h
  glo := fun x h => by
    unfold gloB at h
    rw [Bool.and_eq_true] at h
    show X.env.scope.names.lookup x = _
    rw [hs]
    simpa using h.2
  fre := fun x h => by rw [hs]; exact h
  pass := fun _ => hp
  sc := fun _ => ⟨hs, hk⟩
/-- in a comprehension's block -/
theorem here_blk {s : SC} {X : Cx} (h : Here s X) (scope : Scope) (st : Shared) (H0 : Hp) (C : Addr) (cl : List (Str × Addr)) (fp : List Addr) : Here { s with sc := scope, blk := true } (X.blk st H0 scope (compEnvC scope cl C X.env) fp) where
  N := h.N
  nd := h.nd
  vis := fun x hx => by
    unfold visB at hx
    rw [Bool.and_eq_true] at hx
    have hv := vis_of hx.2
    show Vis (relabel scope X.env) x
    unfold Vis relabel
    rcases hv with e | e | e
    · rcases relabel_look (env := X.env) e with z | ⟨z, _⟩
      · exact .inl z
      · cases z
    · rcases relabel_look (env := X.env) e with z | ⟨z, _⟩
      · exact .inr (.inl z)
      · cases z
    · rcases relabel_look (env := X.env) e with z | ⟨_, z⟩
      · exact .inr (.inr z)
      · exact .inr (.inl z)
  loc := fun x hx => by
    unfold locB at hx
    have hx' : scope.names.lookup x = some .local ∨ scope.names.lookup x = some .cell := by simpa using hx
    show L2.Loc (relabel scope X.env) x ∧ ((scope.names.lookup x == some .cell) = true ∨ (relabel scope X.env).names.lookup x = some .local)
    unfold L2.Loc relabel
    rcases hx' with e | e
    · rcases relabel_look (env := X.env) e with z | ⟨z, _⟩
      · exact ⟨.inl z, .inr z⟩
      · cases z
    · rcases relabel_look (env := X.env) e with z | ⟨z, _⟩
      · exact ⟨.inr z, .inl (by rw [e]; rfl)⟩
      · cases z
  glo := fun x hx => by
    unfold gloB at hx
    rw [Bool.and_eq_true] at hx
    have e : scope.names.lookup x = some .globalImplicit := by simpa using hx.2
    show (relabel scope X.env).names.lookup x = _
    unfold relabel
    rcases relabel_look (env := X.env) e with z | ⟨z, _⟩
    · exact z
    · cases z
  fre := fun x hx => by
    show (relabel scope X.env).names.lookup x = _ ∨ (relabel scope X.env).names.lookup x = _
    unfold relabel
    have hx' : scope.names.lookup x = some .cell ∨ scope.names.lookup x = some .free := hx
    rcases hx' with e | e
    · rcases relabel_look (env := X.env) e with z | ⟨z, _⟩
      · exact .inl z
      · cases z
    · rcases relabel_look (env := X.env) e with z | ⟨_, z⟩
      · exact .inr z
      · exact .inl z
  pass := fun q => by cases q
  sc := fun q => by cases q
end Ev

end
section -- E4
set_option maxRecDepth 100000
set_option maxHeartbeats 4000000
/-! What the pieces are worth is what the program does: values. -/
namespace Ev
open PySem PySem.Spec L2 Sx Dx
open PyProof.Rows hiding St

/-! ### lists of ints in order -/
theorem mem_insI {i k : Int} : ∀ {js : List Int}, k ∈ insI i js ↔ k = i ∨ k ∈ js
  | [] => by simp [insI]
  | j :: js => by
    unfold insI
    split
    · simp
    · split
      · rename_i h; subst h; simp
      · rw [List.mem_cons, mem_insI, List.mem_cons]
        constructor <;> (intro h; rcases h with h | h | h <;> simp [h])
theorem asc_insI {i : Int} : ∀ {js : List Int}, js.Pairwise (· < ·) → (insI i js).Pairwise (· < ·)
  | [], _ => by simp [insI]
  | j :: js, h => by
    unfold insI
    rw [List.pairwise_cons] at h
    split
    · rename_i hlt
      rw [List.pairwise_cons]
      refine ⟨fun k hk => ?_, List.pairwise_cons.mpr h⟩
      rcases List.mem_cons.mp hk with rfl | hk
      · exact hlt
      · exact Int.lt_trans hlt (h.1 k hk)
    · split
      · exact List.pairwise_cons.mpr h
      · rw [List.pairwise_cons]
        refine ⟨fun k hk => ?_, asc_insI h.2⟩
        rcases mem_insI.mp hk with rfl | hk
        · omega
        · exact h.1 k hk
theorem sortU_aux : ∀ {ns acc : List Int}, acc.Pairwise (· < ·) → (ns.foldl (fun a i => insI i a) acc).Pairwise (· < ·) ∧ ∀ k, k ∈ ns.foldl (fun a i => insI i a) acc ↔ k ∈ acc ∨ k ∈ ns
  | [], acc, h => ⟨h, by simp⟩
  | n :: ns, acc, h => by
    obtain ⟨h1, h2⟩ := sortU_aux (ns := ns) (asc_insI (i := n) h)
    refine ⟨h1, fun k => ?_⟩
    rw [List.foldl_cons, h2 k, mem_insI, List.mem_cons]
    constructor
    · rintro ((h | h) | h) <;> simp [h]
    · rintro (h | h | h) <;> simp [h]
theorem asc_sortU (ns : List Int) : (sortU ns).Pairwise (· < ·) := (sortU_aux .nil).1
theorem mem_sortU {ns : List Int} (k : Int) : k ∈ sortU ns ↔ k ∈ ns := by
  have := (sortU_aux (ns := ns) (acc := []) .nil).2 k
  simpa [sortU] using this
theorem nodup_asc {l : List Int} (h : l.Pairwise (· < ·)) : l.Nodup := h.imp fun h e => by omega
theorem asc_same : ∀ {a b : List Int}, a.Pairwise (· < ·) → b.Pairwise (· < ·) → (∀ k, k ∈ a ↔ k ∈ b) → a = b
  | [], [], _, _, _ => rfl
  | [], b :: bs, _, _, h => by have := (h b).mpr (List.mem_cons_self ..); simp at this
  | a :: as, [], _, _, h => by have := (h a).mp (List.mem_cons_self ..); simp at this
  | a :: as, b :: bs, ha, hb, h => by
    rw [List.pairwise_cons] at ha hb
    have e : a = b := by
      have h1 := (h a).mp (List.mem_cons_self ..)
      have h2 := (h b).mpr (List.mem_cons_self ..)
      rcases List.mem_cons.mp h1 with e | h1
      · exact e
      · rcases List.mem_cons.mp h2 with e | h2
        · exact e.symm
        · have := ha.1 b h2; have := hb.1 a h1; omega
    subst e
    congr 1
    refine asc_same ha.2 hb.2 fun k => ?_
    constructor
    · intro hk
      rcases List.mem_cons.mp ((h k).mp (List.mem_cons_of_mem _ hk)) with e | q
      · subst e; have := ha.1 k hk; omega
      · exact q
    · intro hk
      rcases List.mem_cons.mp ((h k).mpr (List.mem_cons_of_mem _ hk)) with e | q
      · subst e; have := hb.1 k hk; omega
      · exact q
theorem perm_insLe {i : Int} : ∀ {js : List Int}, (insLe i js).Perm (i :: js)
  | [] => .refl _
  | j :: js => by
    unfold insLe
    split
    · exact .refl _
    · exact (List.Perm.cons j perm_insLe).trans (List.Perm.swap ..)
theorem le_insLe {i : Int} : ∀ {js : List Int}, js.Pairwise (· ≤ ·) → (insLe i js).Pairwise (· ≤ ·)
  | [], _ => by simp [insLe]
  | j :: js, h => by
    unfold insLe
    rw [List.pairwise_cons] at h
    split
    · rename_i hle
      rw [List.pairwise_cons]
      refine ⟨fun k hk => ?_, List.pairwise_cons.mpr h⟩
      rcases List.mem_cons.mp hk with rfl | hk
      · exact hle
      · exact Int.le_trans hle (h.1 k hk)
    · rw [List.pairwise_cons]
      refine ⟨fun k hk => ?_, le_insLe h.2⟩
      rcases List.mem_cons.mp (perm_insLe.mem_iff.mp hk) with rfl | hk
      · omega
      · exact h.1 k hk
theorem sortI_ok : ∀ ns : List Int, (sortI ns).Perm ns ∧ (sortI ns).Pairwise (· ≤ ·)
  | [] => ⟨.refl _, .nil⟩
  | n :: ns => by
    obtain ⟨h1, h2⟩ := sortI_ok ns
    exact ⟨perm_insLe.trans (h1.cons n), le_insLe h2⟩
theorem le_same : ∀ {a b : List Int}, a.Pairwise (· ≤ ·) → b.Pairwise (· ≤ ·) → a.Perm b → a = b
  | [], b, _, _, p => (List.nil_perm.mp p).symm
  | a :: as, [], _, _, p => by simp at p
  | a :: as, b :: bs, ha, hb, p => by
    have ha' := ha
    have hb' := hb
    rw [List.pairwise_cons] at ha hb
    have e : a = b := by
      have h1 := p.mem_iff.mp (List.mem_cons_self (a := a) (l := as))
      have h2 := p.mem_iff.mpr (List.mem_cons_self (a := b) (l := bs))
      rcases List.mem_cons.mp h1 with e | h1
      · exact e
      · rcases List.mem_cons.mp h2 with e | h2
        · exact e.symm
        · have := ha.1 b h2; have := hb.1 a h1; omega
    subst e
    congr 1
    exact le_same ha.2 hb.2 (List.perm_cons a |>.mp p)
theorem minI_ok : ∀ {ns : List Int} {m : Int}, minI ns = some m → m ∈ ns ∧ ∀ y ∈ ns, m ≤ y
  | [], m, h => by cases h
  | [i], m, h => by cases h; simp
  | i :: j :: js, m, h => by
    unfold minI at h
    obtain ⟨m', h1, h2⟩ := Option.map_eq_some_iff.mp h
    obtain ⟨g1, g2⟩ := minI_ok h1
    split at h2
    · subst h2
      refine ⟨List.mem_cons_of_mem _ g1, fun y hy => ?_⟩
      rcases List.mem_cons.mp hy with rfl | hy
      · omega
      · exact g2 y hy
    · subst h2
      refine ⟨List.mem_cons_self .., fun y hy => ?_⟩
      rcases List.mem_cons.mp hy with rfl | hy
      · omega
      · have := g2 y hy; omega
theorem maxI_ok : ∀ {ns : List Int} {m : Int}, maxI ns = some m → m ∈ ns ∧ ∀ y ∈ ns, y ≤ m
  | [], m, h => by cases h
  | [i], m, h => by cases h; simp
  | i :: j :: js, m, h => by
    unfold maxI at h
    obtain ⟨m', h1, h2⟩ := Option.map_eq_some_iff.mp h
    obtain ⟨g1, g2⟩ := maxI_ok h1
    split at h2
    · subst h2
      refine ⟨List.mem_cons_of_mem _ g1, fun y hy => ?_⟩
      rcases List.mem_cons.mp hy with rfl | hy
      · omega
      · exact g2 y hy
    · subst h2
      refine ⟨List.mem_cons_self .., fun y hy => ?_⟩
      rcases List.mem_cons.mp hy with rfl | hy
      · omega
      · have := g2 y hy; omega
theorem intsOf_eq : ∀ {ds : List D} {ns : List Int}, intsOf ds = some ns → ds = ns.map D.int
  | [], ns, h => by cases h; rfl
  | d :: ds, ns, h => by
    cases d with
    | int i =>
      unfold intsOf at h
      obtain ⟨ms, h1, rfl⟩ := Option.map_eq_some_iff.mp h
      rw [intsOf_eq h1]
      rfl
    | _ => cases h
theorem intsOf_map (ns : List Int) : intsOf (ns.map D.int) = some ns := by
  induction ns with
  | nil => rfl
  | cons n ns ih => simp [intsOf, ih]
theorem blsOf_eq : ∀ {ds : List D} {ns : List Bool}, blsOf ds = some ns → ds = ns.map D.bl
  | [], ns, h => by cases h; rfl
  | d :: ds, ns, h => by
    cases d with
    | bl i =>
      unfold blsOf at h
      obtain ⟨ms, h1, rfl⟩ := Option.map_eq_some_iff.mp h
      rw [blsOf_eq h1]
      rfl
    | _ => cases h
section
variable {X : Cx} {F : Fx} {ρ : En} {Q : DQ} {QB : Bool → En → Prop} {x y z d : D} {i j : Int} {k : Nat}
theorem do_intop [Fit X F] {op : Operator} {m : Int} (h : intOp op i j = some m) (q : Q (.int m) ρ) : DO X F (binaryOp op) (.int i) (.int j) ρ Q := by
  cases op with
  | Add => cases h; exact do_add q
  | Sub => cases h; exact do_sub q
  | Mult =>
    simp only [intOp] at h
    split at h
    · rename_i hm
      cases h
      refine do_mul (CMul.ok ?_) q
      unfold mulOk at hm
      simpa [CMul] using hm
    · cases h
  | Mod =>
    simp only [intOp] at h
    split at h
    · rename_i hm; cases h; exact do_mod hm q
    · cases h
  | FloorDiv =>
    simp only [intOp] at h
    split at h
    · rename_i hm; cases h; exact do_fdiv hm.1 (Int.lt_of_lt_of_le hm.2 (by decide +kernel)) q
    · cases h
  | Pow =>
    simp only [intOp] at h
    split at h
    · rename_i hm; cases h; exact do_pow ⟨hm.1, by omega, hm.2.2⟩ q
    · cases h
  | LShift =>
    simp only [intOp] at h
    split at h
    · rename_i hm; cases h; exact do_int _ _ _ (fun _ _ _ _ k => o_shl hm k) (fun _ _ => .int _) q
    · cases h
  | RShift =>
    simp only [intOp] at h
    split at h
    · rename_i hm; cases h; exact do_int _ _ _ (fun _ _ _ _ k => o_shr hm k) (fun _ _ => .int _) q
    · cases h
  | BitAnd => cases h; exact do_and q
  | BitOr => cases h; exact do_int _ _ _ (fun _ _ _ _ k => o_or k) (fun _ _ => .int _) q
  | BitXor => cases h; exact do_int _ _ _ (fun _ _ _ _ k => o_xor k) (fun _ _ => .int _) q
  | _ => cases h
theorem do_opD [Fit X F] {op : Operator} (h : opD op x y = some z) (q : Q z ρ) : DO X F (binaryOp op) x y ρ Q := by
  unfold opD at h
  split at h
  · obtain ⟨m, h1, rfl⟩ := Option.map_eq_some_iff.mp h
    exact do_intop h1 q
  · split at h
    · rename_i hz; cases h; exact do_catL hz q
    · cases h
  · split at h
    · rename_i hz; cases h; exact do_catT hz q
    · cases h
  · split at h
    · rename_i hz; cases h; exact do_catS hz q
    · cases h
  · split at h
    · rename_i hz; cases h; exact do_rep (by omega) (by omega) hz.2 q
    · cases h
  · cases h
theorem du_unD [Fit X F] {op : UnaryOp} (h : unD op x = some z) (q : Q z ρ) : DU X F (unaryOp op) x ρ Q := by
  unfold unD at h
  split at h
  · cases h; exact du_neg q
  · cases h; exact du_inv q
  · cases h
theorem dc_eqX [Fit X F] {b : Bool} (hr : Room k X.A) (h : eqD x y = some b) (q : Q (.bl b) ρ) : DO X F (compareOp .Eq) x y ρ Q := by
  unfold eqD at h
  split at h
  · cases h; exact dc_eqI q
  · cases h; exact dc_eqS q
  · cases h; exact dc_eqB q
  · split at h
    · rename_i p r e1 e2
      split at h
      · rename_i hs
        cases h
        exact dc_eqD hr e1 e2 hs.1 hs.2 q
      · cases h
    · cases h
theorem dc_neX [Fit X F] {b : Bool} (hr : Room k X.A) (h : eqD x y = some b) (q : Q (.bl (!b)) ρ) : DO X F (compareOp .NotEq) x y ρ Q := by
  unfold eqD at h
  split at h
  · cases h; exact dc_neI q
  · cases h; exact dc_neS q
  · cases h; exact dc_neB q
  · split at h
    · rename_i p r e1 e2
      split at h
      · rename_i hs
        cases h
        exact dc_neD hr e1 e2 hs.1 hs.2 q
      · cases h
    · cases h
theorem dc_inX [Fit X F] {b : Bool} (h : inD x y = some b) (q : Q (.bl b) ρ) : DO X F (compareOp .In) x y ρ Q := by
  unfold inD at h
  split at h
  · obtain ⟨ns, h1, rfl⟩ := Option.map_eq_some_iff.mp h
    rw [intsOf_eq h1]
    exact dc_inT q
  · cases h
theorem dc_notInX [Fit X F] {b : Bool} (h : inD x y = some b) (q : Q (.bl (!b)) ρ) : DO X F (compareOp .NotIn) x y ρ Q := by
  unfold inD at h
  split at h
  · obtain ⟨ns, h1, rfl⟩ := Option.map_eq_some_iff.mp h
    rw [intsOf_eq h1]
    exact dc_notInT q
  · cases h
theorem dc_cmpD [Fit X F] {op : CmpOp} {b : Bool} (hr : Room k X.A) (h : cmpD op x y = some b) (q : Q (.bl b) ρ) : DO X F (compareOp op) x y ρ Q := by
  unfold cmpD at h
  split at h
  · cases h; exact dc_lt q
  · cases h; exact dc_le q
  · cases h; exact dc_gt q
  · cases h; exact dc_ge q
  · exact dc_eqX hr h q
  · obtain ⟨c, h1, rfl⟩ := Option.map_eq_some_iff.mp h
    exact dc_neX hr h1 q
  · cases h; exact dc_isN q
  · cases h; exact dc_notN q
  · exact dc_inX h q
  · obtain ⟨c, h1, rfl⟩ := Option.map_eq_some_iff.mp h
    exact dc_notInX h1 q
  · cases h
theorem dtr_truD [Fit X F] {b : Bool} (h : truD x = some b) (q : QB b ρ) : DTru X F x ρ QB := by
  unfold truD at h
  split at h
  · cases h; exact dtr_bl q
  · cases h; exact dtr_int q
  · cases h; exact dtr_non q
  · cases h; exact dtr_tup q
  · cases h; exact dtr_lst q
  · cases h
theorem dix_idxD [Fit X F] (h : idxD x y = some z) (q : Q z ρ) : DIx X F x y ρ Q := by
  unfold idxD at h
  split at h
  · exact dix_tup h q
  · exact dix_lst h q
  · exact dix_scr h q
  · cases h
theorem dsl_slcD [Fit X F] {lo hi : Option Int} (h : slcD x lo hi = some z) (q : Q z ρ) : DSl X F x lo hi ρ Q := by
  unfold slcD at h
  split at h
  · cases h; exact dsl_lst q
  · cases h; exact dsl_scr q
  · cases h; exact dsl_tup q
  · split at h
    · rename_i hz; cases h; exact dsl_str hz q
    · cases h
  · cases h
theorem dc_sortSetX [Fit X F] {ns : List Int} (hc : X.calm = true) (hl : (sortU ns).length < 64) (q : Q (.own (.lst ((sortU ns).map D.int))) ρ) : DC X F (.builtin "sorted") [.set ns] ρ Q := by
  refine dc_sortSet hc (fun ks h1 h2 => ?_) fun ms h1 h2 => ?_
  · have p : ks.Perm (sortU ns) := (List.perm_ext_iff_of_nodup h1 (nodup_asc (asc_sortU ns))).mpr fun a => (h2 a).trans (mem_sortU a).symm
    rw [p.length_eq]; exact hl
  · rw [asc_same h1 (asc_sortU ns) fun k => (h2 k).trans (mem_sortU k).symm]
    exact q
theorem dc_sortLX [Fit X F] {ns : List Int} (q : Q (.own (.lst ((sortI ns).map D.int))) ρ) : DC X F (.builtin "sorted") [.lst (ns.map D.int)] ρ Q := by
  refine dc_sortL fun ms h1 h2 => ?_
  obtain ⟨g1, g2⟩ := sortI_ok ns
  rw [le_same h2 g2 (h1.trans g1.symm)]
  exact q
theorem dc_minX [Fit X F] {ns : List Int} {m : Int} (hc : X.calm = true) (h : minI ns = some m) (q : Q (.int m) ρ) : DC X F (.builtin "min") [.lst (ns.map D.int)] ρ Q := by
  obtain ⟨h1, h2⟩ := minI_ok h
  refine dc_min hc (List.length_pos_of_mem h1) fun m' g1 g2 => ?_
  have e : m' = m := by have := g2 m h1; have := h2 m' g1; omega
  rw [e]; exact q
theorem dc_maxX [Fit X F] {ns : List Int} {m : Int} (hc : X.calm = true) (h : maxI ns = some m) (q : Q (.int m) ρ) : DC X F (.builtin "max") [.lst (ns.map D.int)] ρ Q := by
  obtain ⟨h1, h2⟩ := maxI_ok h
  refine dc_max hc (List.length_pos_of_mem h1) fun m' g1 g2 => ?_
  have e : m' = m := by have := g2 m h1; have := h2 m' g1; omega
  rw [e]; exact q
end
end Ev

end
section -- E5
set_option maxRecDepth 100000
set_option maxHeartbeats 4000000
/-! What the pieces are worth is what the program does: expressions. -/
namespace Ev
open PySem PySem.Spec L2 Sx Dx
open PyProof.Rows hiding St

theorem bind_ok {α β σ : Type} {o : Out α σ} {f : α → σ → Out β σ} {b : β} {s : σ} (h : o.bind f = .ok b s) : ∃ a s1, o = .ok a s1 ∧ f a s1 = .ok b s := by
  cases o with
  | ok a s1 => exact ⟨a, s1, rfl, h⟩
  | exn x s1 => cases h
  | stuck => cases h
theorem lift_ok {α : Type} {o : Option α} {ρ ρ' : En} {a : α} (h : lift o ρ = .ok a ρ') : o = some a ∧ ρ' = ρ := by
  cases o with
  | none => cases h
  | some b => cases h; exact ⟨rfl, rfl⟩
/-- what a def promises -/
def dsp (C : Cal) (f : FK) : DSp := fun ds Q => ∃ d outs, C f ds = .ok d outs ∧ Q d outs
/-- the built-ins by their names -/
def bid : Bf → Option String
  | .len => some "len" | .abs => some "abs" | .sorted => some "sorted" | .all => some "all" | .any => some "any" | .divmod => some "divmod"
  | .isinstance => some "isinstance" | .repr => some "repr" | .max => some "max" | .min => some "min" | .sum => some "sum"
  | _ => none
def bty : Bf → Option String
  | .int => some "int" | .tuple => some "tuple" | .list => some "list" | .set => some "set" | .str => some "str" | .bool => some "bool"
  | _ => none
/-- the value that is called -/
def bval (b : Bf) : Option Value := match bid b with
  | some i => some (.builtin i)
  | none => (bty b).map .type
def tyNames : List String := ["int", "bool", "str", "tuple", "list", "dict", "NoneType"]
structure FnG (C : Cal) (n : Nat) (X : Cx) (F : Fx) (x : Str) (dfl : List D) : Prop where
  ex : ∃ (f : Addr) (fd : FuncData) (ps : List Str) (dvs : List V), FnOk X.prog X.w X.K X.mg X.base CX0 (3 * n) f fd ps (toSp X.K X.w F.cl (dsp C (.f x))) ∧ X.mg x = some (.ref f) ∧ PySem.W.keepIn X.K (.ref f) = true ∧
    (∀ O H, RepL X.K X.w F.cl O H dvs dfl) ∧ ∀ j, j ≤ dvs.length → ∃ ds, Binds X.K fd ps ds ∧ Vals (dvs.drop j) ds
structure IniG (C : Cal) (n : Nat) (X : Cx) (F : Fx) (c : Str) (a : Addr) (dfl : List D) : Prop where
  ex : ∃ (f : Addr) (fd : FuncData) (ps : List Str) (dvs : List V), Mk X.K a f ∧ FnOk X.prog X.w X.K X.mg X.base CX0 (3 * n) f fd ps (toSp X.K X.w F.cl (dsp C (.i c))) ∧
    (∀ O H, RepL X.K X.w F.cl O H dvs dfl) ∧ ∀ j, j ≤ dvs.length → ∃ ds, Binds X.K fd ps ds ∧ Vals (dvs.drop j) ds
structure Glo (C : Cal) (n : Nat) (G : Str → Option GK) (A : Str → Option Bool) (P : Str → Option Str) (X : Cx) (F : Fx) : Prop where
  fit : Fit X F
  room : Room (3 * n + 2) X.A
  calm : X.calm = true
  b : Blt X.mg
  blt : ∀ x b, G x = some (.blt b) → X.mg x = none ∧ x ≠ "__name__" ∧ ∃ i, bid b = some i ∧ bootBuiltins x = some (.builtin i)
  bty : ∀ x b T, G x = some (.bty b T) → X.mg x = none ∧ x ≠ "__name__" ∧ bid b = none ∧ bty b = some T ∧ bootBuiltins x = some (.type T)
  int : ∀ x k, G x = some (.int k) → ∃ tk, X.mg x = some (.int k tk)
  fn : ∀ x mu dfl, G x = some (.fn mu dfl) → FnG C n X F x dfl
  cls : ∀ c np dfl, G c = some (.cls np dfl) → ∃ a, X.mg c = some (.ref a) ∧ (∀ ds d o, C (.i c) ds = .ok d o → F.cl.c c = some a ∧ ClsF X.K a ∧ IniG C n X F c a dfl)
  glc : ∀ c np dfl, G c = some (.cls np dfl) → ∃ a, X.mg c = some (.ref a) ∧ F.cl.c c = some a
  glf : ∀ c mu dfl, G c = some (.fn mu dfl) → ∃ a, X.mg c = some (.ref a) ∧ F.cl.f c = some a
  meth : ∀ c m ds d o, C (.m c m) ds = .ok d o → ∃ a ps, F.cl.c c = some a ∧ ClsF X.K a ∧ MethOk X.prog X.w X.K X.mg X.base a m (3 * n) ps (toSp X.K X.w F.cl (dsp C (.m c m)))
  methK : ∀ c m kw ds d o, P m = some kw → C (.m c m) ds = .ok d o → ∃ a ps, F.cl.c c = some a ∧ ClsF X.K a ∧ MethKOk X.prog X.w X.K X.mg X.base a m kw (3 * n) ps (toSp X.K X.w F.cl (dsp C (.m c m)))
  prop : ∀ c m ds d o, C (.p c m) ds = .ok d o → ∃ a ps, F.cl.c c = some a ∧ ClsF X.K a ∧ PropOk X.prog X.w X.K X.mg X.base a m (3 * n) ps (toSp X.K X.w F.cl (dsp C (.p c m)))
  fld : ∀ f c a, A f = some true → F.cl.c c = some a → NoAttr X.K a f
  isi : ∀ c a c' a', F.cl.c c = some a → F.cl.c c' = some a' → PySem.W.kitOne X.K (.ref a) (.ref a') = some (decide (c = c'))
  isb : ∀ T c a, T ∈ tyNames → F.cl.c c = some a → PySem.W.kitOne X.K (.type T) (.ref a) = some false
  ist : ∀ T c a, T ∈ tyNames → F.cl.c c = some a → PySem.W.kitOne X.K (.ref a) (.type T) = some false
section
variable {C : Cal} {n : Nat} {G : Str → Option GK} {A : Str → Option Bool} {P : Str → Option Str} {X : Cx} {F F' : Fx}
theorem Glo.to (g : Glo C n G A P X F) (hK : F'.K = F.K) (hw : F'.w = F.w) (hc : F'.cl = F.cl) : Glo C n G A P X F' := by
  have fn : ∀ x dfl, FnG C n X F x dfl → FnG C n X F' x dfl := fun x dfl ⟨h⟩ => ⟨by rw [hc]; exact h⟩
  have ini : ∀ c a dfl, IniG C n X F c a dfl → IniG C n X F' c a dfl := fun c a dfl ⟨h⟩ => ⟨by rw [hc]; exact h⟩
  exact { g with
    fit := ⟨hK.trans g.fit.K, hw.trans g.fit.w⟩
    fn := fun x mu dfl h => fn _ _ (g.fn x mu dfl h)
    cls := fun c np dfl h => by
      obtain ⟨a, h1, h2⟩ := g.cls c np dfl h
      exact ⟨a, h1, fun ds d o ho => by
        obtain ⟨q1, q2, q3⟩ := h2 ds d o ho
        exact ⟨by rw [hc]; exact q1, q2, ini _ _ _ q3⟩⟩
    glc := by rw [hc]; exact g.glc
    glf := by rw [hc]; exact g.glf
    meth := by rw [hc]; exact g.meth
    methK := by rw [hc]; exact g.methK
    prop := by rw [hc]; exact g.prop
    fld := by rw [hc]; exact g.fld
    isi := by rw [hc]; exact g.isi
    isb := by rw [hc]; exact g.isb
    ist := by rw [hc]; exact g.ist }
theorem Glo.out (g : Glo C n G A P X F) {p : Addr} : Glo C n G A P X (F.out p) := g.to rfl rfl rfl
theorem Glo.also (g : Glo C n G A P X F) {hs : List HF} : Glo C n G A P X (F.also hs) := g.to rfl rfl rfl
theorem Glo.blk (g : Glo C n G A P X F) {st : Shared} {H0 : Hp} {scope : Scope} {cenv : Env} {fp : List Addr} : Glo C n G A P (X.blk st H0 scope cenv fp) F :=
  ⟨⟨g.fit.K, g.fit.w⟩, g.room, g.calm, g.b, g.blt, g.bty, g.int, fun x mu dfl h => ⟨(g.fn x mu dfl h).ex⟩, fun c np dfl h => by
      obtain ⟨a, h1, h2⟩ := g.cls c np dfl h
      exact ⟨a, h1, fun ds d o ho => by
        obtain ⟨q1, q2, q3⟩ := h2 ds d o ho
        exact ⟨q1, q2, ⟨q3.ex⟩⟩⟩, g.glc, g.glf, g.meth, g.methK, g.prop, g.fld, g.isi, g.isb, g.ist⟩
theorem Glo.r0 (g : Glo C n G A P X F) : Room (3 * n) X.A := g.room.mono (by omega)
theorem Glo.r1 (g : Glo C n G A P X F) : Room (3 * n + 1) X.A := g.room.mono (by omega)
end
section
variable {C : Cal} {n : Nat} {s : SC} {X : Cx} {F : Fx} {ρ ρ' ρ1 : En} {Q : DQ} {QB : Bool → En → Prop} {x y z d : D} {i j k : Nat} {nm : Str} {pos p : Pos} {e : Expr} {σ : St} {H : Hp}
theorem zip_look : ∀ {N : List Str} {ρ : En} {i : Nat} {x : Str} {o : Option D}, N.Nodup → N[i]? = some x → ρ[i]? = some o → (N.zip ρ).lookup x = some o
  | [], _, _, _, _, _, h, _ => by simp at h
  | n :: ns, [], i, x, o, _, _, h => by simp at h
  | n :: ns, r :: rs, 0, x, o, _, h1, h2 => by
    simp at h1 h2
    subst h1
    subst h2
    rw [List.zip_cons_cons, List.lookup_cons]
    simp
  | n :: ns, r :: rs, i + 1, x, o, nd, h1, h2 => by
    have h1' : ns[i]? = some x := by simpa using h1
    have hne : (x == n) = false := by
      rw [beq_eq_false_iff_ne]
      exact fun e => (List.nodup_cons.mp nd).1 (e ▸ List.mem_of_getElem? h1')
    rw [List.zip_cons_cons, List.lookup_cons, hne]
    exact zip_look (List.nodup_cons.mp nd).2 h1' (by simpa using h2)
theorem slot_of {x : Str} (h : slotOf s x = some i) : visB s x = true ∧ s.N[i]? = some x := by
  unfold slotOf at h
  split at h
  · rename_i v; exact ⟨v, ixOf0 h⟩
  · cases h
theorem glob_of {x : Str} {k : GK} (h : globOf s x = some k) : gloB s x = true ∧ s.G x = some k := by
  unfold globOf at h
  split at h
  · rename_i v; exact ⟨v, h⟩
  · cases h
theorem vis_nm {x : Str} (h : visB s x = true) : (x == ("__debug__" : Str)) = false ∧ (x == ("__classdict__" : Str)) = false := by
  unfold visB at h
  rw [Bool.and_eq_true] at h
  exact nm_ok h.1
theorem glo_nm {x : Str} (h : gloB s x = true) : (x == ("__debug__" : Str)) = false ∧ (x == ("__classdict__" : Str)) = false := by
  unfold gloB at h
  rw [Bool.and_eq_true] at h
  exact nm_ok h.1
/-- a local name -/
theorem r_var {x : Str} (hh : Here s X) (h : slotOf s x = some i) (ev : getVar i ρ = .ok d ρ') (q : Q d ρ') : DE X F (.Name x pos) ρ Q := by
  obtain ⟨v, hi⟩ := slot_of h
  obtain ⟨n1, n2⟩ := vis_nm v
  have hN : X.N.Nodup := hh.N ▸ hh.nd
  have hi' : X.N[i]? = some x := by rw [hh.N]; exact hi
  unfold getVar at ev
  split at ev
  · rename_i m e
    cases ev
    refine d_nameO hN (zip_look hN hi' e) (hh.vis x v) n1 n2 ?_
    rw [setE_eq hi' hN]
    exact q
  · cases ev
  · rename_i d0 no nb e
    cases ev
    refine d_name (zip_look hN hi' e) ?_ (hh.vis x v) n1 n2 q
    cases d with
    | own m => exact (no m rfl).elim
    | bor m => exact (nb m rfl).elim
    | _ => rfl
  · cases ev
theorem kept_some {i : Nat} {ρ : En} (h : (keptAt i ρ).isSome = true) : ∃ d0, ρ[i]? = some (some d0) ∧ d0.mutIs.isSome = true := by
  unfold keptAt at h
  split at h
  · rename_i d e; exact ⟨d, e, h⟩
  · cases h
theorem kept_eq {i : Nat} {ρ : En} {xs : List D} (h : keptAt i ρ = some xs) : ∃ d0, ρ[i]? = some (some d0) ∧ d0.mutIs = some xs := by
  unfold keptAt at h
  split at h
  · rename_i d e; exact ⟨d, e, h⟩
  · cases h
theorem items_of {d : D} {xs : List D} (h : d.mutIs = some xs) : d.items = some xs := by
  unfold D.mutIs at h
  split at h
  · cases h; rfl
  · cases h; rfl
  · cases h
theorem put_at {i : Nat} {ρ : En} {xs : List D} {d0 : D} (h : ρ[i]? = some (some d0)) : putAt i xs ρ = ρ.set i (some (d0.put xs)) := by
  unfold putAt; rw [h]
end
end Ev

end
section -- E6
set_option maxRecDepth 100000
set_option maxHeartbeats 4000000
/-! Operations on values. -/
namespace Ev
open PySem PySem.Spec L2 Sx Dx
open PyProof.Rows hiding St
section
variable {C : Cal} {n : Nat} {G : Str → Option GK} {A : Str → Option Bool} {P : Str → Option Str} {X : Cx} {F : Fx} {ρ ρ' ρ1 : En} {Q : DQ} {QB : Bool → En → Prop} {x y z d : D} {i j k : Nat} {σ : St} {H : Hp} {v u : V}
theorem back_none {r : Out D (List MV)} (h : back ρ none r = .ok d ρ') : ∃ o, r = .ok d o ∧ ρ' = ρ := by
  cases r with
  | ok a o => cases h; exact ⟨o, rfl, rfl⟩
  | exn a o => cases h
  | stuck => cases h
theorem dsp_of {f : FK} {ds : List D} {o : List MV} {R : D → List MV → Prop} (h : C f ds = .ok d o) (q : R d o) : dsp C f ds R := ⟨d, o, h, q⟩
/-- an instance of a class that stands somewhere -/
theorem ins_cls (g : Glo C n G A P X F) {c : Str} {fs : List (Str × D)} {O : Addr → Prop} (r : F.R O H v (.ins c fs)) : ∃ a, F.cl.c c = some a ∧ ClsF X.K a := by
  obtain ⟨a, h1, h2⟩ := Rep.insC r
  exact ⟨a, h1, g.fit.K ▸ h2.1⟩
theorem do_binO (g : Glo C n G A P X F) {op : Operator} (h : binO C op x y ρ = .ok z ρ') (q : Q z ρ') : DO X F (binaryOp op) x y ρ Q := by
  haveI := g.fit
  unfold binO at h
  split at h
  · rename_i c fs
    intro σ H v u ok r1 r2
    split at h
    · rename_i c' gs
      split at h
      · rename_i e
        subst e
        obtain ⟨o, h1, rfl⟩ := back_none h
        obtain ⟨a, ps, hc, cf, M⟩ := g.meth c _ _ _ _ h1
        exact do_own hc ⟨cf.first⟩ M g.r0 (dsp_of h1 q) σ H v u ok r1 r2
      · cases h
    · split at h
      · rename_i e
        subst e
        obtain ⟨o, h1, rfl⟩ := back_none h
        obtain ⟨a, ps, hc, cf, M⟩ := g.meth c _ _ _ _ h1
        obtain ⟨o1, i1⟩ := cf.im
        obtain ⟨o2, i2⟩ := cf.ir
        exact do_ownI hc ⟨cf.first⟩ M g.r0 cf.rm i1 i2 cf.ci (dsp_of h1 q) σ H v u ok r1 r2
      · cases h
    · cases h
  · obtain ⟨h1, rfl⟩ := lift_ok h
    exact do_opD h1 q
theorem du_unO (g : Glo C n G A P X F) {op : UnaryOp} (h : unO C op x ρ = .ok z ρ') (q : Q z ρ') : DU X F (unaryOp op) x ρ Q := by
  haveI := g.fit
  unfold unO at h
  split at h
  · intro σ H v ok r1
    obtain ⟨o, h1, rfl⟩ := back_none h
    obtain ⟨a, ps, hc, cf, M⟩ := g.meth _ _ _ _ _ h1
    exact du_ownNeg hc M g.r0 (dsp_of h1 q) σ H v ok r1
  · intro σ H v ok r1
    obtain ⟨o, h1, rfl⟩ := back_none h
    obtain ⟨a, ps, hc, cf, M⟩ := g.meth _ _ _ _ _ h1
    exact du_ownInv hc M g.r0 (dsp_of h1 q) σ H v ok r1
  · obtain ⟨h1, rfl⟩ := lift_ok h
    exact du_unD h1 q
theorem asB_ok {r : Out D (List MV)} {b : Bool} (h : asB (back ρ none r) = .ok b ρ') : ∃ o, r = .ok (.bl b) o ∧ ρ' = ρ := by
  obtain ⟨d, s1, h1, h2⟩ := bind_ok h
  obtain ⟨o, h3, rfl⟩ := back_none h1
  unfold theB at h2
  split at h2
  · cases h2; exact ⟨o, h3, rfl⟩
  · cases h2
theorem do_cmpO (g : Glo C n G A P X F) {op : CmpOp} {b : Bool} (h : cmpO C op x y ρ = .ok b ρ') (q : Q (.bl b) ρ') : DO X F (compareOp op) x y ρ Q := by
  haveI := g.fit
  unfold cmpO at h
  split at h
  · rename_i c gs
    intro σ H v u ok r1 r2
    split at h
    · split at h
      · split at h
        · rename_i e
          subst e
          obtain ⟨o, h1, rfl⟩ := asB_ok h
          obtain ⟨a, ps, hc, cf, M⟩ := g.meth _ _ _ _ _ h1
          exact dc_ownEq hc ⟨cf.first⟩ M g.r0 (dsp_of h1 q) σ H v u ok r1 r2
        · cases h
      · cases h
    · split at h
      · split at h
        · rename_i e
          subst e
          obtain ⟨k, s1, h0, h2⟩ := bind_ok h
          cases h2
          obtain ⟨o, h1, rfl⟩ := asB_ok h0
          obtain ⟨a, ps, hc, cf, M⟩ := g.meth _ _ _ _ _ h1
          exact dc_ownNe hc M g.r1 cf.ne cf.ob (dsp_of h1 ⟨k, rfl, q⟩) σ H v u ok r1 r2
        · cases h
      · cases h
    · obtain ⟨o, h1, rfl⟩ := asB_ok h
      obtain ⟨a, ps, hc, cf, M⟩ := g.meth _ _ _ _ _ h1
      exact dc_ownIn hc M g.r0 (dsp_of h1 ⟨b, rfl, q⟩) σ H v u ok r1 r2
    · obtain ⟨k, s1, h0, h2⟩ := bind_ok h
      cases h2
      obtain ⟨o, h1, rfl⟩ := asB_ok h0
      obtain ⟨a, ps, hc, cf, M⟩ := g.meth _ _ _ _ _ h1
      exact dc_ownNotIn hc M g.r0 (dsp_of h1 ⟨k, rfl, q⟩) σ H v u ok r1 r2
    · cases h
  · obtain ⟨h1, rfl⟩ := lift_ok h
    exact dc_cmpD g.r0 h1 q
/-! ### built-ins -/
theorem tyX_of {T : String} {K : PySem.W.Frag} {O : Addr → Prop} {w : World} {cl : Nm} (h : tyOf x = some T) (r : Rep K w cl O H v x) : TyX K H v (.type T) := by
  cases r with
  | non => cases h; exact .base .non
  | bl b => cases h; exact .base (.bl b)
  | int b => cases h; exact .base (.int b)
  | str b => cases h; exact .base (.str b)
  | tup h1 n r =>
    cases h
    rcases h1 with h1 | ⟨o, h1⟩
    · exact .base (.tup h1)
    · exact .fTuple h1
  | tupK h1 r =>
    cases h
    rcases h1 H with (h1 | ⟨o, h1⟩) | ⟨o, us, n, hl, hc, _⟩
    · exact .base (.tup h1)
    · exact .fTuple h1
    · exact .kTuple hl hc
  | lst h1 n r => cases h; exact .base (.lst h1)
  | scr h3 n r =>
    cases h
    rcases h3 with h3 | ⟨o, h3⟩
    · exact .base (.lst h3)
    · exact .base (.frz h3)
  | scrK h3 r =>
    cases h
    rcases h3 H with (h3 | ⟨o, h3⟩) | ⟨o, us, m, hl, hc, _⟩
    · exact .base (.lst h3)
    · exact .base (.frz h3)
    · exact .kList hl hc
  | dct h1 n k r =>
    cases h
    rcases h1 with h1 | ⟨o, h1⟩
    · exact .base (.dK h1)
    · exact .fDict h1
  | _ => cases h
theorem tyOf_in {T : String} (h : tyOf x = some T) : T ∈ tyNames := by
  cases x <;> first | (cases h; decide) | cases h
theorem tyX_ins (g : Glo C n G A P X F) {c : Str} {fs : List (Str × D)} {O : Addr → Prop} (r : F.R O H v (.ins c fs)) : ∃ C', F.cl.c c = some C' ∧ TyX X.K H v (.ref C') := by
  have r' : Rep F.K F.w F.cl O H v (.ins c fs) := r
  cases r' with
  | ins hc g1 h1 n1 k1 r1 =>
    have ic := g1.1.isC
    rw [g.fit.K] at ic
    exact ⟨_, hc, .base (.ins h1 ic.cl ic.ha ic.hn ic.htk ic.hm)⟩
theorem dc_isi (g : Glo C n G A P X F) {b : Bool} (h : isiD x y = some b) (q : Q (.bl b) ρ) : DC X F (.builtin "isinstance") [x, y] ρ Q := fun σ H vs ok r => by
  cases r with
  | cons r1 r =>
  cases r with
  | cons r2 r =>
  cases r
  rename_i v1 v2
  unfold isiD at h
  split at h
  · rename_i c fs c'
    cases h
    obtain ⟨C', hc, ty⟩ := tyX_ins g r1
    obtain ⟨a', h2, rfl⟩ := Rep.glV r2
    exact b_isi (.own _) ty (g.isi c _ c' _ hc h2) (res_same ok (.bl _) q)
  · rename_i c fs T
    split at h
    · rename_i hT
      cases h
      obtain ⟨C', hc, ty⟩ := tyX_ins g r1
      rw [r2.tyV]
      refine b_isi (.ty T) ty (g.ist T c _ ?_ hc) (res_same ok (.bl _) q)
      rcases hT with rfl | rfl | rfl | rfl | rfl | rfl <;> decide
    · cases h
  · rename_i T no
    obtain ⟨t, h1, h2⟩ := Option.bind_eq_some_iff.mp h
    rw [r2.tyV]
    have ty := tyX_of h1 r1
    rw [g.fit.K] at ty
    exact b_isi (.ty T) ty (kit_ty h2) (res_same ok (.bl _) q)
  · rename_i c' no
    obtain ⟨t, h1, rfl⟩ := Option.map_eq_some_iff.mp h
    obtain ⟨a', h2, rfl⟩ := Rep.glV r2
    have ty := tyX_of h1 r1
    rw [g.fit.K] at ty
    exact b_isi (.own _) ty (g.isb t c' _ (tyOf_in h1) h2) (res_same ok (.bl _) q)
  · cases h
/-- a built-in's value -/
theorem dc_bltD (g : Glo C n G A P X F) {f : Bf} {ds : List D} {b : Value} (hb : bval f = some b) (h : bltD f ds = some z) (q : Q z ρ) : DC X F b ds ρ Q := by
  haveI := g.fit
  have hc := g.calm
  unfold bltD at h
  split at h
  · cases hb; cases h; exact dc_lenT q
  · cases hb; cases h; exact dc_lenL q
  · cases hb; cases h; exact dc_lenR q
  · cases hb
    split at h
    · rename_i hz; cases h; exact dc_lenS hz q
    · cases h
  · cases hb; cases h; exact dc_int1 q
  · cases hb; cases h; exact dc_abs q
  · cases hb; cases h; exact dc_tupL q
  · cases hb; cases h; exact dc_tupT q
  · cases hb; cases h; exact dc_lstL q
  · cases hb; cases h; exact dc_lstT q
  · cases hb; cases h; exact dc_max2 hc q
  · cases hb; cases h; exact dc_min2 hc q
  · cases hb
    split at h
    · rename_i hz; cases h; exact dc_divmod hz q
    · cases h
  · cases hb
    split at h
    · rename_i hl
      obtain ⟨ns, h1, rfl⟩ := Option.map_eq_some_iff.mp h
      have e := intsOf_eq h1
      subst e
      exact dc_setL hc (by simpa using hl) q
    · cases h
  · cases hb
    split at h
    · rename_i hl
      obtain ⟨ns, h1, rfl⟩ := Option.map_eq_some_iff.mp h
      have e := intsOf_eq h1
      subst e
      exact dc_setT hc (by simpa using hl) q
    · cases h
  · cases hb
    split at h
    · rename_i hl; cases h; exact dc_sortSetX hc hl q
    · cases h
  · cases hb
    obtain ⟨ns, h1, rfl⟩ := Option.map_eq_some_iff.mp h
    have e := intsOf_eq h1
    subst e
    exact dc_sortLX q
  · cases hb
    obtain ⟨ns, h1, rfl⟩ := Option.map_eq_some_iff.mp h
    have e := blsOf_eq h1
    subst e
    exact dc_all hc q
  · cases hb
    obtain ⟨m, h1, rfl⟩ := Option.map_eq_some_iff.mp h
    obtain ⟨ns, h2, h3⟩ := Option.bind_eq_some_iff.mp h1
    have e := intsOf_eq h2
    subst e
    exact dc_minX hc h3 q
  · cases hb
    obtain ⟨m, h1, rfl⟩ := Option.map_eq_some_iff.mp h
    obtain ⟨ns, h2, h3⟩ := Option.bind_eq_some_iff.mp h1
    have e := intsOf_eq h2
    subst e
    exact dc_maxX hc h3 q
  · cases hb
    obtain ⟨ns, h1, rfl⟩ := Option.map_eq_some_iff.mp h
    have e := intsOf_eq h1
    subst e
    exact dc_sum hc q
  · cases hb
  · cases hb
    obtain ⟨b, h1, rfl⟩ := Option.map_eq_some_iff.mp h
    exact dc_isi g h1 q
  · cases h
theorem dc_bltO (g : Glo C n G A P X F) {f : Bf} {ds : List D} {b : Value} (hb : bval f = some b) (h : bltO C f ds ρ = .ok z ρ') (q : Q z ρ') : DC X F b ds ρ Q := by
  haveI := g.fit
  unfold bltO at h
  split at h
  · rename_i c fs
    intro σ H vs ok r
    have r0 := r
    cases r with
    | cons r1 r =>
    split at h
    · cases hb
      obtain ⟨d, s1, h1, h2⟩ := bind_ok h
      obtain ⟨o, h3, rfl⟩ := back_none h1
      obtain ⟨a, ps, hc, cf, M⟩ := g.meth c _ _ _ _ h3
      unfold lenO at h2
      split at h2
      · split at h2
        · rename_i hz
          cases h2
          exact dc_ownLen hc M g.r1 (dsp_of h3 ⟨_, rfl, hz, q⟩) σ H _ ok r0
        · cases h2
      · cases h2
    · cases hb
      obtain ⟨d, s1, h1, h2⟩ := bind_ok h
      obtain ⟨o, h3, rfl⟩ := back_none h1
      obtain ⟨a, ps, hc, cf, M⟩ := g.meth c _ _ _ _ h3
      unfold strO at h2
      split at h2
      · cases h2
        exact dc_ownStr hc M g.room (dsp_of h3 ⟨_, rfl, q⟩) σ H _ ok r0
      · cases h2
    · cases hb
      obtain ⟨d, s1, h1, h2⟩ := bind_ok h
      obtain ⟨o, h3, rfl⟩ := back_none h1
      obtain ⟨a, ps, hc, cf, M⟩ := g.meth c _ _ _ _ h3
      unfold strO at h2
      split at h2
      · cases h2
        exact dc_ownRepr hc M g.r1 (dsp_of h3 ⟨_, rfl, q⟩) σ H _ ok r0
      · cases h2
    · cases h
  · obtain ⟨h1, rfl⟩ := lift_ok h
    exact dc_bltD g hb h1 q
end
end Ev

end
section -- E7
set_option maxRecDepth 100000
set_option maxHeartbeats 4000000
/-! Expressions. -/
namespace Ev
open PySem PySem.Spec L2 Sx Dx
open PyProof.Rows hiding St

def SE (s : SC) (e : Expr) (ie : IE) : Prop := ∀ ⦃C : Cal⦄ ⦃n : Nat⦄ ⦃X : Cx⦄ ⦃F : Fx⦄, Here s X → Glo C n s.G s.A s.P X F → ∀ ⦃ρ ρ' : En⦄ ⦃d : D⦄ ⦃Q : DQ⦄, evE C ie ρ = .ok d ρ' → Q d ρ' → DE X F e ρ Q
def ST (s : SC) (e : Expr) (ie : IT) : Prop := ∀ ⦃C : Cal⦄ ⦃n : Nat⦄ ⦃X : Cx⦄ ⦃F : Fx⦄, Here s X → Glo C n s.G s.A s.P X F → ∀ ⦃ρ ρ' : En⦄ ⦃b : Bool⦄ ⦃Q : Bool → En → Prop⦄, evT C ie ρ = .ok b ρ' → Q b ρ' → DT X F e ρ Q
def SL (s : SC) (es : List Expr) (is : List IE) : Prop := ∀ ⦃C : Cal⦄ ⦃n : Nat⦄ ⦃X : Cx⦄ ⦃F : Fx⦄, Here s X → Glo C n s.G s.A s.P X F → ∀ ⦃ρ ρ' : En⦄ ⦃ds : List D⦄ ⦃Q : List Ag → En → Prop⦄, evL C is ρ = .ok ds ρ' → Q (ds.map .d) ρ' → DA X F es ρ Q
def SA (s : SC) (es : List Expr) (is : List IA) : Prop := ∀ ⦃C : Cal⦄ ⦃n : Nat⦄ ⦃X : Cx⦄ ⦃F : Fx⦄, Here s X → Glo C n s.G s.A s.P X F → ∀ ⦃ρ ρ' : En⦄ ⦃as : List Ag⦄ ⦃Q : List Ag → En → Prop⦄, evA C is ρ = .ok as ρ' → Q as ρ' → DA X F es ρ Q
def SP (s : SC) (e : Option Expr) (ie : Option IE) : Prop := ∀ ⦃C : Cal⦄ ⦃n : Nat⦄ ⦃X : Cx⦄ ⦃F : Fx⦄, Here s X → Glo C n s.G s.A s.P X F → ∀ ⦃ρ ρ' : En⦄ ⦃b : Option Int⦄ ⦃Q : Option Int → En → Prop⦄, evP C ie ρ = .ok b ρ' → Q b ρ' → DP X F e ρ Q
def SI (s : SC) (tp : Bool) (e : Expr) (ie : II) : Prop := ∀ ⦃C : Cal⦄ ⦃n : Nat⦄ ⦃X : Cx⦄ ⦃F : Fx⦄, Here s X → Glo C n s.G s.A s.P X F → ∀ ⦃ρ ρ' : En⦄ ⦃ds : List D⦄ ⦃tg : Expr⦄ ⦃Q : List D → En → Prop⦄, (tp = true → (isTup tg).isSome = true) → evI C ie ρ = .ok ds ρ' → Q ds ρ' → DI X F tg e ρ Q
/-- a target in the def itself; in a block -/
def SG (s : SC) (e : Expr) (ig : IG) : Prop := s.blk = false → ∀ ⦃C : Cal⦄ ⦃n : Nat⦄ ⦃X : Cx⦄ ⦃F : Fx⦄, Here s X → Glo C n s.G s.A s.P X F → ∀ ⦃ρ ρ' : En⦄ ⦃d : D⦄ ⦃N : En → Prop⦄, asgG C ig d ρ = .ok () ρ' → N ρ' → DG X F e d ρ N
theorem agV_map : ∀ ds : List D, agV (ds.map Ag.d) = some ds
  | [] => rfl
  | d :: ds => by show (match agV (ds.map Ag.d) with | some xs => some (d :: xs) | none => none) = _; rw [agV_map ds]
theorem optAll_nil {α : Type} {r : List α} (h : optAll ([] : List (Option α)) = some r) : r = [] := by cases h; rfl
theorem optAll_cons {α : Type} {o : Option α} {os : List (Option α)} {r : List α} (h : optAll (o :: os) = some r) : ∃ a rs, o = some a ∧ optAll os = some rs ∧ r = a :: rs := by
  cases o with
  | none => cases h
  | some a =>
    obtain ⟨rs, h1, h2⟩ := Option.map_eq_some_iff.mp h
    exact ⟨a, rs, rfl, h1, h2.symm⟩
theorem sl_of {s : SC} {k : Nat} (hE : ∀ e ie, cE k s e = some ie → SE s e ie) : ∀ {es : List Expr} {is : List IE}, es.any isStar = false → optAll (es.map (cE k s)) = some is → SL s es is
  | [], is, _, h => by
    have := optAll_nil h
    subst this
    intro C n X F hh g ρ ρ' ds Q ev q
    cases ev
    exact da_nil q
  | e :: es, is, hs, h => by
    obtain ⟨i, is', h1, h2, rfl⟩ := optAll_cons h
    rw [List.any_cons, Bool.or_eq_false_iff] at hs
    intro C n X F hh g ρ ρ' ds Q ev q
    obtain ⟨d, ρ1, e1, ev⟩ := bind_ok ev
    obtain ⟨ds', ρ2, e2, ev⟩ := bind_ok ev
    cases ev
    exact da_cons (star_cons hs.1) (hE e i h1 hh g e1 (sl_of hE hs.2 h2 hh g e2 q))
/-- f(..) where the arguments are values -/
theorem db_of {s : SC} {es : List Expr} {is : List IE} {C : Cal} {n : Nat} {X : Cx} {F : Fx} {ρ ρ' : En} {ds : List D} {Q : DQ} {f : Value} (h : SL s es is) (hh : Here s X) (g : Glo C n s.G s.A s.P X F) (ev : evL C is ρ = .ok ds ρ') (q : DC X F f ds ρ' Q) : DB X F f es ρ Q :=
  h hh g ev ⟨ds, agV_map ds, q⟩
theorem bnd_of {ρ : En} : ∀ {as : List Ag} {ds : List D} {l : Option Nat}, bindAg ρ as = some (ds, l) → Bnd ρ as ds l
  | [], ds, l, h => by cases h; exact .nil
  | .d x :: as, ds, l, h => by
    unfold bindAg at h
    obtain ⟨r, h1, h2⟩ := Option.map_eq_some_iff.mp h
    cases h2
    exact .d (bnd_of h1)
  | .len i :: as, ds, l, h => by
    unfold bindAg at h
    split at h
    · rename_i m ds' h1 h2
      cases h
      unfold mvAt at h1
      split at h1
      · rename_i d e
        exact .lend e h1 (bnd_of h2)
      · cases h1
    · cases h
theorem notO_ok {x d : D} {ρ ρ' : En} (h : notO x ρ = .ok d ρ') : ∃ k, x = .bl k ∧ d = .bl (!k) ∧ ρ' = ρ := by
  unfold notO at h
  split at h
  · cases h; exact ⟨_, rfl, rfl, rfl⟩
  · cases h
theorem theB_ok {x : D} {b : Bool} {ρ ρ' : En} (h : theB x ρ = .ok b ρ') : x = .bl b ∧ ρ' = ρ := by
  unfold theB at h
  split at h
  · cases h; exact ⟨rfl, rfl⟩
  · cases h
theorem theI_ok {x : D} {b : Option Int} {ρ ρ' : En} (h : theI x ρ = .ok b ρ') : ∃ i, x = .int i ∧ b = some i ∧ ρ' = ρ := by
  unfold theI at h
  split at h
  · cases h; exact ⟨_, rfl, rfl, rfl⟩
  · cases h
theorem back_ok {ρ ρ' : En} {l : Option Nat} {r : Out D (List MV)} {d : D} (h : back ρ l r = .ok d ρ') : ∃ o, r = .ok d o ∧ ρ' = putOut ρ l o := by
  cases r with
  | ok a o => cases h; exact ⟨o, rfl, rfl⟩
  | exn a o => cases h
  | stuck => cases h
section
variable {C : Cal} {n k : Nat} {s : SC} {X : Cx} {F : Fx} {ρ ρ' ρ1 : En} {Q : DQ} {QB : Bool → En → Prop} {x y z d : D} {i j : Nat} {nm : Str} {pos p fp apos np : Pos} {e a b c o : Expr} {es ks : List Expr} {σ : St} {H : Hp}
/-- x[e] -/
theorem r_idv {x : Str} {ib : IE} (hs : plainIx b = true) (hsl : slotOf s x = some i) (hE : SE s b ib) (hh : Here s X) (g : Glo C n s.G s.A s.P X F) (ev : evE C (.idv i ib) ρ = .ok d ρ') (q : Q d ρ') : DE X F (.Subscript (.Name x p) b pos) ρ Q := by
  haveI := g.fit
  simp only [evE] at ev
  obtain ⟨v, hi⟩ := slot_of hsl
  obtain ⟨n1, n2⟩ := vis_nm v
  have hN : X.N.Nodup := hh.N ▸ hh.nd
  have hi' : X.N[i]? = some x := by rw [hh.N]; exact hi
  split at ev
  · rename_i hk
    obtain ⟨d0, h1, h2⟩ := kept_some hk
    obtain ⟨y, ρ1, e1, ev⟩ := bind_ok ev
    refine d_ixO (plain_ix hs) (zip_look hN hi' h1) h2 (hh.vis x v) n1 n2 hN (hE hh g e1 ?_)
    unfold idvO at ev
    split at ev
    · rename_i k
      split at ev
      · rename_i xs hx
        obtain ⟨h3, rfl⟩ := lift_ok ev
        obtain ⟨d1, g1, g2⟩ := kept_eq hx
        exact ⟨k, d1, xs, d, rfl, zip_look hN hi' g1, items_of g2, h3, q⟩
      · cases ev
    · cases ev
  · obtain ⟨y, ρ1, e1, ev⟩ := bind_ok ev
    obtain ⟨z, ρ2, e2, ev⟩ := bind_ok ev
    obtain ⟨h3, rfl⟩ := lift_ok ev
    exact d_ix (plain_ix hs) (r_var hh hsl e1 (hE hh g e2 (dix_idxD h3 q)))
/-- len(x) -/
theorem r_lev {x lf : Str} {bf : GK} (hlf : globOf s lf = some (.blt .len)) (hsl : slotOf s x = some i) (hh : Here s X) (g : Glo C n s.G s.A s.P X F) (ev : levO C i ρ = .ok d ρ') (q : Q d ρ') : DE X F (.Call (.Name lf fp) [.Name x np] [] pos) ρ Q := by
  haveI := g.fit
  obtain ⟨v, hi⟩ := slot_of hsl
  obtain ⟨n1, n2⟩ := vis_nm v
  have hN : X.N.Nodup := hh.N ▸ hh.nd
  have hi' : X.N[i]? = some x := by rw [hh.N]; exact hi
  obtain ⟨gl, gk⟩ := glob_of hlf
  obtain ⟨hm, hn, id, hb, hv⟩ := g.blt lf _ gk
  cases hb
  obtain ⟨m1, _⟩ := glo_nm gl
  unfold levO at ev
  split at ev
  · rename_i xs hk
    cases ev
    obtain ⟨d0, h1, h2⟩ := kept_eq hk
    intro σ H ok
    obtain ⟨w, h3, h4⟩ := ok.slot i d0 h1
    obtain ⟨a, vs, rfl, hr, rl⟩ := h4.items (items_of h2)
    refine e_callB (hh.glo lf gl) hm hv hn m1 (star_cons rfl) (star_plain rfl) (a_cons (star_cons rfl) (re_of (pe_var hi' (hh.vis x v) n1 n2) ⟨_, h3, a_nil ?_⟩))
    refine b_lenL (xs := vs) (by rw [← g.fit.K]; exact hr) ?_
    rw [rl.len]
    exact res_same ok (.int _) q
  · obtain ⟨y, ρ1, e1, ev⟩ := bind_ok ev
    refine d_callB (hh.glo lf gl) hm hv hn m1 (star_cons rfl) (star_plain rfl) ?_
    exact da_cons (star_cons rfl) (r_var hh hsl e1 (da_nil ⟨[y.fz], rfl, dc_bltO g rfl ev q⟩))
/-- a built-in -/
theorem r_blt {x : Str} {f : Bf} {k : GK} {is : List IE} (hx : globOf s x = some k) (hk : k = .blt f ∨ ∃ T, k = .bty f T) (hs : (e :: es).any isStar = false) (hL : SL s (e :: es) is) (hh : Here s X) (g : Glo C n s.G s.A s.P X F) (ev : evE C (.blt f is) ρ = .ok d ρ') (q : Q d ρ') : DE X F (.Call (.Name x fp) (e :: es) [] pos) ρ Q := by
  simp only [evE] at ev
  obtain ⟨ds, ρ1, e1, ev⟩ := bind_ok ev
  obtain ⟨gl, gk⟩ := glob_of hx
  obtain ⟨m1, _⟩ := glo_nm gl
  rw [List.any_cons, Bool.or_eq_false_iff] at hs
  rcases hk with rfl | ⟨T, rfl⟩
  · obtain ⟨hm, hn, id, hb, hv⟩ := g.blt x _ gk
    exact d_callB (hh.glo x gl) hm hv hn m1 (star_cons hs.1) (star_plain hs.2) (db_of hL hh g e1 (dc_bltO g (by unfold bval; rw [hb]) ev q))
  · obtain ⟨hm, hn, hb0, hb, hv⟩ := g.bty x _ T gk
    exact d_callTy (hh.glo x gl) hm hv hn m1 (star_cons hs.1) (star_plain hs.2) (db_of hL hh g e1 (dc_bltO g (by unfold bval; rw [hb0, hb]; rfl) ev q))
theorem calO_ok {f : FK} {as : List Ag} {df : List D} (h : calO C f as df ρ = .ok d ρ') : ∃ ds l o, bindAg ρ as = some (ds, l) ∧ C f (ds ++ df) = .ok d o ∧ ρ' = putOut ρ l o := by
  unfold calO at h
  split at h
  · rename_i ds l hb
    obtain ⟨o, h1, h2⟩ := back_ok h
    exact ⟨ds, l, o, hb, h1, h2⟩
  · cases h
theorem dfl_drop {np k : Nat} {dfl df : List D} (h : dflOf np k dfl = some df) : ∃ j, j ≤ dfl.length ∧ df = dfl.drop j := by
  unfold dflOf at h
  split at h
  · cases h; exact ⟨_, by omega, rfl⟩
  · cases h
/-- a def of the text -/
theorem r_cal {x : Str} {mu : List Bool} {dfl df : List D} {is : List IA} {kk : Nat} (hx : globOf s x = some (.fn mu dfl)) (hdf : dflOf mu.length kk dfl = some df) (hs : (e :: es).any isStar = false) (hA : SA s (e :: es) is) (hh : Here s X) (g : Glo C n s.G s.A s.P X F) (ev : evE C (.cal x is df) ρ = .ok d ρ') (q : Q d ρ') : DE X F (.Call (.Name x fp) (e :: es) [] pos) ρ Q := by
  haveI := g.fit
  simp only [evE] at ev
  obtain ⟨as, ρ1, e1, ev⟩ := bind_ok ev
  obtain ⟨ds, l, out, hb, hc, rfl⟩ := calO_ok ev
  obtain ⟨gl, gk⟩ := glob_of hx
  obtain ⟨m1, _⟩ := glo_nm gl
  rw [List.any_cons, Bool.or_eq_false_iff] at hs
  obtain ⟨f, fd, ps, dvs, Fn, hm, hk, hr, hbnd⟩ := (g.fn x mu dfl gk).ex
  obtain ⟨j, hj, rfl⟩ := dfl_drop hdf
  have hl : j ≤ dvs.length := by rw [(hr (fun _ => False) (fun _ => none)).len]; exact hj
  obtain ⟨dsv, b1, b2⟩ := hbnd j hl
  exact d_callD Fn hm hk b1 b2 (fun O H => (hr O H).drop j) g.r0 (hh.glo x gl) m1 (star_cons hs.1) (star_plain hs.2) (hA hh g e1 ⟨ds, l, bnd_of hb, dsp_of hc q⟩)
/-- a def of the text, as it is -/
theorem fn_call {x : Str} {mu : List Bool} {dfl : List D} (g : Glo C n s.G s.A s.P X F) (gk : s.G x = some (.fn mu dfl)) : ∃ ps, Callable X.prog X.w X.K X.mg X.base x (3 * n) ps (toSp X.K X.w F.cl (dsp C (.f x))) := by
  obtain ⟨f, fd, ps, dvs, Fn, hm, hk, hr, hbnd⟩ := (g.fn x mu dfl gk).ex
  obtain ⟨dsv, b1, b2⟩ := hbnd dvs.length (Nat.le_refl _)
  rw [List.drop_length] at b2
  cases b2
  exact ⟨ps, ⟨f, fd, Fn, hm, hk, b1⟩⟩
/-- f(g(..), ..) -/
theorem r_cas {x y : Str} {mu mu' : List Bool} {dfl dfl' : List D} {is : List IA} {ik : List IE} {fp2 pos2 : Pos} (hx : globOf s x = some (.fn mu dfl)) (hy : globOf s y = some (.fn mu' dfl')) (hs : (e :: es).any isStar = false) (hs2 : ks.any isStar = false) (hA : SA s (e :: es) is) (hL : SL s ks ik) (hh : Here s X) (g : Glo C n s.G s.A s.P X F) (ev : evE C (.cas x y is ik) ρ = .ok d ρ') (q : Q d ρ') :
    DE X F (.Call (.Name x fp) (.Call (.Name y fp2) (e :: es) [] pos2 :: ks) [] pos) ρ Q := by
  haveI := g.fit
  simp only [evE] at ev
  obtain ⟨as, ρ1, e1, ev⟩ := bind_ok ev
  obtain ⟨t, ρ2, e2, ev⟩ := bind_ok ev
  obtain ⟨ds, l, out, hb, hc, rfl⟩ := calO_ok e2
  obtain ⟨m, ρ2', e4, ev⟩ := bind_ok ev
  obtain ⟨us, ρ3, e3, ev⟩ := bind_ok ev
  obtain ⟨o2, hc2, hp⟩ := back_ok ev
  have hp : ρ' = ρ3 := hp
  subst hp
  rw [List.append_nil] at hc
  obtain ⟨gl, gk⟩ := glob_of hx
  obtain ⟨gl2, gk2⟩ := glob_of hy
  obtain ⟨m1, _⟩ := glo_nm gl
  obtain ⟨m2, _⟩ := glo_nm gl2
  rw [List.any_cons, Bool.or_eq_false_iff] at hs
  obtain ⟨ps, C1⟩ := fn_call g gk
  obtain ⟨ps2, C2⟩ := fn_call g gk2
  cases t with
  | own m' =>
    cases e4
    exact d_call2 C1 C2 g.r0 g.r0 (hh.glo x gl) (hh.glo y gl2) m1 m2 (star_cons rfl) (star_cons hs.1) (star_plain hs2) (star_plain hs.2) (hA hh g e1 ⟨ds, l, bnd_of hb, dsp_of hc ⟨m, rfl, fun c => hL hh g.out e3 ⟨us, agV_map us, dsp_of hc2 q⟩⟩⟩)
  | _ => cases e4
end
end Ev

end
section -- E8
set_option maxRecDepth 100000
set_option maxHeartbeats 4000000
/-! Expressions: making, attributes, methods, comprehensions. -/
namespace Ev
open PySem PySem.Spec L2 Sx Dx
open PyProof.Rows hiding St
section
variable {C : Cal} {n k : Nat} {s : SC} {X : Cx} {F : Fx} {ρ ρ' ρ1 : En} {Q : DQ} {QB : Bool → En → Prop} {x y z d : D} {i j : Nat} {nm : Str} {pos p fp apos np : Pos} {e a b c o : Expr} {es ks : List Expr} {σ : St} {H : Hp}
theorem r_mak {x : Str} {np' kk : Nat} {dfl df : List D} {is : List IE} (hx : globOf s x = some (.cls np' dfl)) (hdf : dflOf np' kk dfl = some df) (hs : (e :: es).any isStar = false) (hL : SL s (e :: es) is) (hh : Here s X) (g : Glo C n s.G s.A s.P X F) (ev : evE C (.mak x is df) ρ = .ok d ρ') (q : Q d ρ') : DE X F (.Call (.Name x fp) (e :: es) [] pos) ρ Q := by
  haveI := g.fit
  simp only [evE] at ev
  obtain ⟨ds, ρ1, e1, ev⟩ := bind_ok ev
  unfold makO at ev
  split at ev
  · rename_i m hC
    cases ev
    obtain ⟨gl, gk⟩ := glob_of hx
    obtain ⟨m1, _⟩ := glo_nm gl
    rw [List.any_cons, Bool.or_eq_false_iff] at hs
    obtain ⟨a, hm, hall⟩ := g.cls x np' dfl gk
    obtain ⟨hc, cf, ini⟩ := hall _ _ _ hC
    obtain ⟨f, fd, ps, dvs, M, Fn, hr, hbnd⟩ := ini.ex
    obtain ⟨j, hj, rfl⟩ := dfl_drop hdf
    have hl : j ≤ dvs.length := by rw [(hr (fun _ => False) (fun _ => none)).len]; exact hj
    obtain ⟨dsv, b1, b2⟩ := hbnd j hl
    exact d_mkD M Fn hm b1 b2 (fun O H => (hr O H).drop j) hc cf g.r1 (hh.glo x gl) m1 (star_cons hs.1) (star_plain hs.2) (hL hh g e1 ⟨ds, agV_map ds, dsp_of hC ⟨m, rfl, rfl, q⟩⟩)
  · cases ev
theorem r_fld {f : Str} {ia : IE} (hb : isSuper a = false) (hE : SE s a ia) (hh : Here s X) (g : Glo C n s.G s.A s.P X F) (ev : evE C (.fld ia f) ρ = .ok d ρ') (q : Q d ρ') : DE X F (.Attribute a f pos) ρ Q := by
  haveI := g.fit
  simp only [evE] at ev
  obtain ⟨t, ρ1, e1, ev⟩ := bind_ok ev
  unfold fldG at ev
  split at ev
  · rename_i c fs ht
    obtain ⟨h1, rfl⟩ := lift_ok ev
    refine d_fldF (base_no hb) (hE hh g e1 ⟨c, fs, d, ht, h1, q⟩)
  · cases ev
theorem r_prp {f : Str} {ia : IE} (hb : isSuper a = false) (hE : SE s a ia) (hh : Here s X) (g : Glo C n s.G s.A s.P X F) (ev : evE C (.prp ia f) ρ = .ok d ρ') (q : Q d ρ') : DE X F (.Attribute a f pos) ρ Q := by
  haveI := g.fit
  simp only [evE] at ev
  obtain ⟨t, ρ1, e1, ev⟩ := bind_ok ev
  unfold prpO at ev
  split at ev
  · rename_i c fs ht
    obtain ⟨o, h1, rfl⟩ := back_none ev
    obtain ⟨a, ps, hc, cf, M⟩ := g.prop c f _ _ _ h1
    exact d_propF hc M cf.isC.cl g.r1 (base_no hb) (hE hh g e1 ⟨fs, ht, dsp_of (by rw [← ht]; exact h1) q⟩)
  · cases ev
theorem kws_none {pos : Pos} {env : Env} : backToKw pos (keywordEach [] env) = [] := rfl
theorem ht_line {o : Expr} {m : Str} {es : List Expr} {kws : List Keyword} {apos pos : Pos} {env : Env} (hb : isSuper o = false) (hs : es.any isStar = false) (hk : (kws.all fun k => k.arg.isSome) = true) (hl : (apos.endLine == pos.line) = true) (hn : es.length + kws.length + 1 < 30) :
    eval (.Call (.Attribute o m apos) es kws pos) env = (do let z ← eval o env; standAt apos.atName; let (y, first) ← holding [z] (getMethod z m (plainOf o env)); callWith pos y first (backTo pos (starEach es env)) (backToKw pos (keywordEach kws env))) := by
  have hf : methodCallForm (es.length + kws.length) (backTo pos (starEach es env)) (backToKw pos (keywordEach kws env)) = true := by
    unfold methodCallForm
    have h1 : ((backTo pos (starEach es env)).all fun x => !x.1) = true := star_nostar hs
    have h2 : ((backToKw pos (keywordEach kws env)).all fun x => x.1.isSome) = true := by
      clear hn
      induction kws with
      | nil => rfl
      | cons k ks ih =>
        obtain ⟨nm, vl, ps⟩ := k
        rw [List.all_cons, Bool.and_eq_true] at hk
        show (nm.isSome && ((backToKw pos (keywordEach ks env)).all fun x => x.1.isSome)) = true
        rw [Bool.and_eq_true]
        exact ⟨hk.1, ih hk.2⟩
    have h3 : decide (es.length + kws.length + (if (backToKw pos (keywordEach kws env)).isEmpty = true then 0 else 1) < 30) = true := by
      rw [decide_eq_true_eq]
      split <;> omega
    rw [h1, h2]
    simpa using h3
  have e1 : eval (.Call (.Attribute o m apos) es kws pos) env = (do
      let ov ← attributeBase o m env (eval o env)
      standAt apos.atName
      methodCall o m apos pos env ov (es.length + kws.length) (backTo pos (starEach es env)) (backToKw pos (keywordEach kws env))) := rfl
  rw [e1, base_no hb]
  congr 1
  funext z
  congr 1
  funext _
  exact mcall_line hf hl
theorem metO_ok {x : D} {m : Str} {ds : List D} (h : metO C x m ds ρ = .ok d ρ') : ∃ c fs o, x = .ins c fs ∧ C (.m c m) (x :: ds) = .ok d o ∧ ρ' = ρ := by
  unfold metO at h
  split at h
  · rename_i c fs
    obtain ⟨o, h1, rfl⟩ := back_none h
    exact ⟨c, fs, o, rfl, h1, rfl⟩
  · cases h
theorem r_met {m : Str} {io : IE} {is : List IE} (hlen : is.length = es.length) (hb : isSuper o = false) (hs : es.any isStar = false) (hl : (apos.endLine == pos.line) = true) (hn : es.length + 1 < 30) (hE : SE s o io) (hL : SL s es is) (hh : Here s X) (g : Glo C n s.G s.A s.P X F) (ev : evE C (.met io m is [] []) ρ = .ok d ρ') (q : Q d ρ') : DE X F (.Call (.Attribute o m apos) es [] pos) ρ Q := by
  haveI := g.fit
  simp only [evE] at ev
  obtain ⟨t, ρ1, e1, ev⟩ := bind_ok ev
  obtain ⟨ds, ρ2, e2, ev⟩ := bind_ok ev
  obtain ⟨us, ρ3, e3, ev⟩ := bind_ok ev
  simp only [evL] at e3
  cases e3
  obtain ⟨c, fs, o', ht, hC, rfl⟩ := metO_ok ev
  obtain ⟨a, ps, hc, cf, M⟩ := g.meth c m _ _ _ hC
  rw [List.append_nil] at hC
  rw [ht] at hC
  have hline := ht_line (m := m) (env := X.env) hb hs (kws := []) rfl hl (by simpa using hn)
  cases es with
  | nil => exact d_meth0F hc M cf.isC.cl g.r0 hline (hE hh g e1 ⟨fs, ht, by
      have : ds = [] ∧ ρ' = ρ1 := by
        cases is with
        | nil => simp only [evL] at e2; cases e2; exact ⟨rfl, rfl⟩
        | cons i is => cases hlen
      rw [this.1] at hC
      rw [← this.2]
      exact dsp_of hC q⟩)
  | cons e es =>
    rw [List.any_cons, Bool.or_eq_false_iff] at hs
    exact d_methF hc M cf.isC.cl g.r0 (star_cons hs.1) (star_plain hs.2) hline (hE hh g e1 ⟨fs, ht, hL hh g e2 ⟨ds, agV_map ds, dsp_of hC q⟩⟩)
/-- o.m(k = e) -/
theorem r_metK {m kw : Str} {io ie : IE} {kpos : Pos} (hb : isSuper o = false) (hl : (apos.endLine == pos.line) = true) (hP : s.P m = some kw) (hE : SE s o io) (hE2 : SE s e ie) (hh : Here s X) (g : Glo C n s.G s.A s.P X F) (ev : evE C (.met io m [] [kw] [ie]) ρ = .ok d ρ') (q : Q d ρ') : DE X F (.Call (.Attribute o m apos) [] [⟨some kw, e, kpos⟩] pos) ρ Q := by
  haveI := g.fit
  simp only [evE] at ev
  obtain ⟨t, ρ1, e1, ev⟩ := bind_ok ev
  obtain ⟨ds, ρ2, e2, ev⟩ := bind_ok ev
  simp only [evL] at e2
  cases e2
  obtain ⟨us, ρ3, e3, ev⟩ := bind_ok ev
  simp only [evL] at e3
  obtain ⟨u, ρ4, e4, e3⟩ := bind_ok e3
  cases e3
  obtain ⟨c, fs, o', ht, hC, rfl⟩ := metO_ok ev
  obtain ⟨a, ps, hc, cf, M⟩ := g.methK c m kw _ _ _ hP hC
  rw [ht] at hC
  have hline := ht_line (m := m) (env := X.env) hb (es := []) rfl (kws := [⟨some kw, e, kpos⟩]) rfl hl (by simp)
  exact d_methKF hc cf.isC.cl M g.r0 hline rfl rfl rfl (hE hh g e1 ⟨fs, ht, hE2 hh g e4 (dsp_of hC q)⟩)
/-- x.append(e) -/
theorem r_app {x : Str} {ie : IE} (hs : isStar e = false) (hl : (apos.endLine == pos.line) = true) (hsl : slotOf s x = some i) (hE : SE s e ie) (hh : Here s X) (g : Glo C n s.G s.A s.P X F) (ev : evE C (.app i ie) ρ = .ok d ρ') (q : Q d ρ') : DE X F (.Call (.Attribute (.Name x np) "append" apos) [e] [] pos) ρ Q := by
  haveI := g.fit
  simp only [evE] at ev
  obtain ⟨v, hi⟩ := slot_of hsl
  obtain ⟨n1, n2⟩ := vis_nm v
  have hN : X.N.Nodup := hh.N ▸ hh.nd
  have hi' : X.N[i]? = some x := by rw [hh.N]; exact hi
  split at ev
  · rename_i hk
    obtain ⟨d0, h1, h2⟩ := kept_some hk
    obtain ⟨y, ρ1, e1, ev⟩ := bind_ok ev
    have hs1 : ([e] : List Expr).any isStar = false := by rw [List.any_cons, hs]; rfl
    refine d_append hN (base_no rfl) ?_ hl (star_cons hs) rfl (zip_look hN hi' h1) h2 (hh.vis x v) n1 n2 (hE hh g e1 ?_)
    · have h3 := star_nostar (env := X.env) (pos := pos) hs1
      rw [h3]
      rfl
    · unfold appO at ev
      split at ev
      · rename_i xs hx
        split at ev
        · rename_i hz
          cases ev
          obtain ⟨d1, g1, g2⟩ := kept_eq hx
          refine ⟨d1, xs, zip_look hN hi' g1, g2, hz, ?_⟩
          rw [setE_eq hi' hN, ← put_at g1]
          exact q
        · cases ev
      · cases ev
  · cases ev
/-- x.pop(e) -/
theorem r_pop {x : Str} {ie : IE} (hs : isStar e = false) (hl : (apos.endLine == pos.line) = true) (hsl : slotOf s x = some i) (hE : SE s e ie) (hh : Here s X) (g : Glo C n s.G s.A s.P X F) (ev : evE C (.pop i ie) ρ = .ok d ρ') (q : Q d ρ') : DE X F (.Call (.Attribute (.Name x np) "pop" apos) [e] [] pos) ρ Q := by
  haveI := g.fit
  simp only [evE] at ev
  obtain ⟨v, hi⟩ := slot_of hsl
  obtain ⟨n1, n2⟩ := vis_nm v
  have hN : X.N.Nodup := hh.N ▸ hh.nd
  have hi' : X.N[i]? = some x := by rw [hh.N]; exact hi
  split at ev
  · rename_i hk
    obtain ⟨d0, h1, h2⟩ := kept_some hk
    obtain ⟨y, ρ1, e1, ev⟩ := bind_ok ev
    have hs1 : ([e] : List Expr).any isStar = false := by rw [List.any_cons, hs]; rfl
    refine d_popAt hN (base_no rfl) ?_ hl (star_cons hs) rfl (zip_look hN hi' h1) h2 (hh.vis x v) n1 n2 (hE hh g e1 ?_)
    · have h3 := star_nostar (env := X.env) (pos := pos) hs1
      rw [h3]
      rfl
    · unfold popO at ev
      split at ev
      · rename_i k
        split at ev
        · rename_i xs hx
          split at ev
          · rename_i hz
            split at ev
            · rename_i j hj
              split at ev
              · rename_i z hzz
                cases ev
                obtain ⟨d1, g1, g2⟩ := kept_eq hx
                refine ⟨k, j, d1, xs, d, rfl, zip_look hN hi' g1, g2, hz.1, hz.2, hj, hzz, ?_⟩
                rw [setE_eq hi' hN, ← put_at g1]
                exact q
              · cases ev
            · cases ev
          · cases ev
        · cases ev
      · cases ev
  · cases ev
/-- a.bit_length() -/
theorem r_bits {ia : IE} (hb : isSuper o = false) (hl : (apos.endLine == pos.line) = true) (hE : SE s o ia) (hh : Here s X) (g : Glo C n s.G s.A s.P X F) (ev : evE C (.bme ia .bitLength []) ρ = .ok d ρ') (q : Q d ρ') : DE X F (.Call (.Attribute o "bit_length" apos) [] [] pos) ρ Q := by
  simp only [evE] at ev
  obtain ⟨t, ρ1, e1, ev⟩ := bind_ok ev
  obtain ⟨ds, ρ2, e2, ev⟩ := bind_ok ev
  simp only [evL] at e2
  cases e2
  obtain ⟨h1, rfl⟩ := lift_ok ev
  cases hz : t.fz with
  | int j =>
    rw [hz] at h1
    cases h1
    intro σ H ok
    refine e_bits (base_no hb) hl (de_run (hE hh g e1 (Q := fun d ρ'' => d = t ∧ ρ'' = ρ') ⟨rfl, rfl⟩) ok fun v H1 d1 ρ2 ok1 r1 k1 ⟨hd, hp⟩ => ?_)
    subst hd
    subst hp
    have r1 : Rep F.K F.w F.cl (Av F σ ρ2) H1 v d1.fz := r1
    rw [hz] at r1
    exact ⟨j, r1.intV, _, _, .rep ok1 (.int _), k1, q⟩
  | _ => rw [hz] at h1; cases h1
end
end Ev

end
section -- E9
set_option maxRecDepth 100000
set_option maxHeartbeats 4000000
/-! What is walked; targets; comprehensions. -/
namespace Ev
open PySem PySem.Spec L2 Sx Dx
open PyProof.Rows hiding St
section
variable {C : Cal} {n k : Nat} {s : SC} {X : Cx} {F : Fx} {ρ ρ' ρ1 : En} {Q : DQ} {QB : Bool → En → Prop} {x y z d : D} {i j : Nat} {nm : Str} {pos p fp apos np : Pos} {e a b c o : Expr} {es ks : List Expr} {σ : St} {H : Hp}
theorem fz_int {d : D} {i : Int} (h : d.fz = .int i) : d = .int i := by
  cases d with
  | own m => cases m <;> cases h
  | _ => exact h
theorem fz_tup {d : D} {ds : List D} (h : d.fz = .tup ds) : d = .tup ds := by
  cases d with
  | own m => cases m <;> cases h
  | _ => exact h
theorem si_of {ie : IE} (tp : Bool) (hE : SE s e ie) : SI s tp e (.of ie) := by
  intro C n X F hh g ρ ρ' ds tg Q htp ev q
  haveI := g.fit
  simp only [evI] at ev
  obtain ⟨t, ρ1, e1, ev⟩ := bind_ok ev
  obtain ⟨h1, rfl⟩ := lift_ok ev
  by_cases hz : ∃ us, t.fz = .tup us
  · obtain ⟨us, hz⟩ := hz
    rw [hz] at h1
    cases h1
    exact di_T (hE hh g e1 ⟨_, fz_tup hz, q⟩)
  · refine di_L (hE hh g e1 ⟨ds, ?_, q⟩)
    unfold itemsD at h1
    split at h1
    · rename_i us hu; exact (hz ⟨us, hu⟩).elim
    · exact h1
theorem si_rng {is : List IE} (tp : Bool) (hs : es.any isStar = false) (hE : ∀ e ie, cE k s e = some ie → SE s e ie) (h : optAll (es.map (cE k s)) = some is) (hg : gloB s "range" = true) : SI s tp (.Call (.Name "range" fp) es [] pos) (.rng is) := by
  intro C n X F hh g ρ ρ' ds tg Q htp ev q
  simp only [evI] at ev
  obtain ⟨us, ρ1, e1, ev⟩ := bind_ok ev
  obtain ⟨h1, rfl⟩ := lift_ok ev
  have gl := hh.glo _ hg
  match es, hs, h with
  | [], _, h =>
    cases optAll_nil h
    simp only [evL] at e1
    cases e1
    cases h1
  | [a], hs, h =>
    obtain ⟨ia, r, h2, h3, rfl⟩ := optAll_cons h
    cases optAll_nil h3
    simp only [evL] at e1
    obtain ⟨t, ρ2, e2, e1⟩ := bind_ok e1
    cases e1
    rw [List.any_cons, Bool.or_eq_false_iff] at hs
    cases hz : t.fz with
    | int m =>
      rw [hz] at h1
      unfold rngD at h1
      simp only at h1
      split at h1
      · rename_i hm
        cases h1
        exact di_R1 g.b gl (by rw [star_cons hs.1]; rfl) (hE a ia h2 hh g e2 ⟨m, fz_int hz, hm, q⟩)
      · cases h1
    | _ => rw [hz] at h1; cases h1
  | [a, b], hs, h =>
    obtain ⟨ia, r, h2, h3, rfl⟩ := optAll_cons h
    obtain ⟨ib, r, h4, h5, rfl⟩ := optAll_cons h3
    cases optAll_nil h5
    simp only [evL] at e1
    obtain ⟨t, ρ2, e2, e1⟩ := bind_ok e1
    obtain ⟨l, ρ3, e3, e1⟩ := bind_ok e1
    obtain ⟨t2, ρ4, e4, e3⟩ := bind_ok e3
    cases e3
    cases e1
    rw [List.any_cons, List.any_cons, Bool.or_eq_false_iff, Bool.or_eq_false_iff] at hs
    cases hz : t.fz with
    | int m =>
      cases hz2 : t2.fz with
      | int m2 =>
        rw [hz, hz2] at h1
        unfold rngD at h1
        simp only at h1
        split at h1
        · rename_i hm
          cases h1
          exact di_R2 g.b gl (by rw [star_cons hs.1, star_cons hs.2.1]; rfl) (by rw [star_cons hs.2.1]; rfl) (hE a ia h2 hh g e2 ⟨m, fz_int hz, hE b ib h4 hh g e4 ⟨m2, fz_int hz2, hm, q⟩⟩)
        · cases h1
      | _ => rw [hz, hz2] at h1; cases h1
    | _ => rw [hz] at h1; cases h1
  | a :: b :: c :: r, hs, h =>
    obtain ⟨ia, r1, h2, h3, rfl⟩ := optAll_cons h
    obtain ⟨ib, r2, h4, h5, rfl⟩ := optAll_cons h3
    obtain ⟨ic, r3, h6, h7, rfl⟩ := optAll_cons h5
    simp only [evL] at e1
    obtain ⟨t, ρ2, e2, e1⟩ := bind_ok e1
    obtain ⟨l, ρ3, e3, e1⟩ := bind_ok e1
    obtain ⟨t2, ρ4, e4, e3⟩ := bind_ok e3
    obtain ⟨l2, ρ5, e5, e3⟩ := bind_ok e3
    obtain ⟨t3, ρ6, e6, e5⟩ := bind_ok e5
    obtain ⟨l3, ρ7, e7, e5⟩ := bind_ok e5
    cases e5
    cases e3
    cases e1
    generalize t.fz = a1 at h1
    generalize t2.fz = a2 at h1
    generalize t3.fz = a3 at h1
    unfold rngD at h1
    split at h1
    · rename_i hq; cases hq
    · rename_i hq; cases hq
    · cases h1
theorem si_enu {ie : IE} (hs : isStar e = false) (hE : SE s e ie) (hg : gloB s "enumerate" = true) : SI s true (.Call (.Name "enumerate" fp) [e] [] pos) (.enu ie) := by
  intro C n X F hh g ρ ρ' ds tg Q htp ev q
  haveI := g.fit
  simp only [evI] at ev
  obtain ⟨t, ρ1, e1, ev⟩ := bind_ok ev
  have ht := htp rfl
  cases hz : t.fz with
  | tup us =>
    rw [hz] at ev
    cases ev
    cases tg with
    | Tuple elts kk tpos => exact di_ET g.b (hh.glo _ hg) (by rw [star_cons hs]; rfl) (hE hh g e1 ⟨us, fz_tup hz, q⟩)
    | _ => cases ht
  | _ => rw [hz] at ev; cases ev
/-! ### targets of the def itself -/
theorem sg_name {x : Str} (hl : locB s x = true) (hi : ixOf x s.N 0 = some i) : SG s (.Name x pos) (.nm i) := by
  intro hb C n X F hh g ρ ρ' d N ev q
  simp only [asgG] at ev
  split at ev
  · cases ev
    have hN : X.N.Nodup := hh.N ▸ hh.nd
    have hi' : X.N[i]? = some x := by rw [hh.N]; exact ixOf0 hi
    obtain ⟨l1, l2⟩ := hh.loc x hl
    refine dg_name hN (by simpa using List.mem_of_getElem? hi') l1 l2 ?_
    rw [setE_eq hi' hN]
    exact q
  · cases ev
def SGs (s : SC) (es : List Expr) (is : List IG) : Prop := s.blk = false → ∀ ⦃C : Cal⦄ ⦃n : Nat⦄ ⦃X : Cx⦄ ⦃F : Fx⦄, Here s X → Glo C n s.G s.A s.P X F → ∀ ⦃ρ ρ' : En⦄ ⦃ds : List D⦄ ⦃N : En → Prop⦄, asgL C is ds ρ = .ok () ρ' → N ρ' → DGs X F es ds ρ N ∧ ds.length = es.length
theorem sgs_of (hE : ∀ e ie, cG k s e = some ie → SG s e ie) : ∀ {es : List Expr} {is : List IG}, es.any isStar = false → optAll (es.map (cG k s)) = some is → SGs s es is
  | [], is, _, h => by
    cases optAll_nil h
    intro hb C n X F hh g ρ ρ' ds N ev q
    simp only [asgL] at ev
    split at ev
    · rename_i hd
      cases ev
      subst hd
      exact ⟨dgs_nil q, rfl⟩
    · cases ev
  | e :: es, is, hs, h => by
    obtain ⟨i, is', h1, h2, rfl⟩ := optAll_cons h
    rw [List.any_cons, Bool.or_eq_false_iff] at hs
    intro hb C n X F hh g ρ ρ' ds N ev q
    cases ds with
    | nil => simp only [asgL] at ev; cases ev
    | cons d ds =>
      simp only [asgL] at ev
      obtain ⟨_, ρ1, e1, ev⟩ := bind_ok ev
      obtain ⟨r1, r2⟩ := sgs_of hE hs.2 h2 hb hh g ev q
      exact ⟨dgs_cons (by rw [asg_cons hs.1]; rfl) (hE e i h1 hb hh g e1 r1), by simp [r2]⟩
theorem sg_tup {is : List IG} {kk : Nat} (hs : es.any isStar = false) (hE : SGs s es is) : SG s (.Tuple es kk pos) (.tp is) := by
  intro hb C n X F hh g ρ ρ' d N ev q
  haveI := g.fit
  cases d with
  | tup ds =>
    simp only [asgG] at ev
    obtain ⟨r1, r2⟩ := hE hb hh g ev q
    obtain ⟨l1, l2⟩ := asg_len (env := X.env) hs
    exact dg_tup g.calm l1 l2 r2 r1
  | _ => simp only [asgG] at ev; cases ev
theorem sg_sub {x : Str} {ie : IE} (hp : plainIx a = true) (hsl : slotOf s x = some i) (hE : SE s a ie) : SG s (.Subscript (.Name x np) a pos) (.sub i ie) := by
  intro hb C n X F hh g ρ ρ' d N ev q
  haveI := g.fit
  simp only [asgG] at ev
  obtain ⟨v, hi⟩ := slot_of hsl
  obtain ⟨n1, n2⟩ := vis_nm v
  have hN : X.N.Nodup := hh.N ▸ hh.nd
  have hi' : X.N[i]? = some x := by rw [hh.N]; exact hi
  split at ev
  · rename_i hk
    obtain ⟨d0, h1, h2⟩ := kept_some hk
    obtain ⟨y, ρ1, e1, ev⟩ := bind_ok ev
    refine dg_sub hN (fun y => ?_) (zip_look hN hi' h1) (hh.vis x v) n1 n2 (hE hh g e1 ?_)
    · cases a <;> first | rfl | cases hp
    · cases y with
      | int m =>
        simp only [subO] at ev
        split at ev
        · rename_i xs hx
          split at ev
          · rename_i jj hj
            cases ev
            obtain ⟨d1, g1, g2⟩ := kept_eq hx
            refine ⟨m, jj, d1, xs, rfl, zip_look hN hi' g1, g2, hj, ?_⟩
            rw [setE_eq hi' hN, ← put_at g1]
            exact q
          · cases ev
        · cases ev
      | _ => simp only [subO] at ev; cases ev
  · cases ev
end
end Ev

end
section -- Ea
set_option maxRecDepth 100000
set_option maxHeartbeats 4000000
/-! Comprehensions; all expressions. -/
namespace Ev
open PySem PySem.Spec L2 Sx Dx
open PyProof.Rows hiding St
section
variable {C : Cal} {n k : Nat} {s : SC} {X : Cx} {F : Fx} {ρ ρ' ρ1 : En} {Q : DQ} {QB : Bool → En → Prop} {x y z d : D} {i j : Nat} {nm : Str} {pos p fp apos np : Pos} {e a b c o : Expr} {es ks : List Expr} {σ : St} {H : Hp}
/-- the slots of a block -/
abbrev vsOf (s : SC) : List Nat := (ownOf s.N s.sc).map (·.2)
def SV (s : SC) (e : Expr) (ig : IG) : Prop := s.blk = true → ∀ ⦃C : Cal⦄ ⦃n : Nat⦄ ⦃X : Cx⦄ ⦃F : Fx⦄, Here s X → Glo C n s.G s.A s.P X F → ∀ ⦃ρ ρ' : En⦄ ⦃d : D⦄ ⦃N : En → Prop⦄, asgG C ig d ρ = .ok () ρ' → N ρ' → DV X F (vsOf s) e d ρ N
def SVs (s : SC) (es : List Expr) (is : List IG) : Prop := s.blk = true → ∀ ⦃C : Cal⦄ ⦃n : Nat⦄ ⦃X : Cx⦄ ⦃F : Fx⦄, Here s X → Glo C n s.G s.A s.P X F → ∀ ⦃ρ ρ' : En⦄ ⦃ds : List D⦄ ⦃N : En → Prop⦄, asgL C is ds ρ = .ok () ρ' → N ρ' → DVs X F (vsOf s) es ds ρ N ∧ ds.length = es.length
theorem look_mem {x : Str} {kd : NameKind} : ∀ {l : List (Str × NameKind)}, l.lookup x = some kd → (x, kd) ∈ l
  | [], h => by cases h
  | (y, j) :: r, h => by
    rw [List.lookup_cons] at h
    split at h
    · rename_i e
      cases h
      have := eq_of_beq e
      subst this
      exact List.mem_cons_self ..
    · exact List.mem_cons_of_mem _ (look_mem h)
theorem own_mem {N : List Str} {sc : Scope} {x : Str} (hl : sc.names.lookup x = some .local ∨ sc.names.lookup x = some .cell) (hi : ixOf x N 0 = some i) : i ∈ (ownOf N sc).map (·.2) := by
  refine List.mem_map.mpr ⟨(x, i), ?_, rfl⟩
  unfold ownOf
  rw [List.mem_filterMap]
  rcases hl with h | h
  · exact ⟨(x, .local), look_mem h, by simp [hi]⟩
  · exact ⟨(x, .cell), look_mem h, by simp [hi]⟩
theorem sv_name {x : Str} (hl : locB s x = true) (hi : ixOf x s.N 0 = some i) : SV s (.Name x pos) (.nm i) := by
  intro hb C n X F hh g ρ ρ' d N ev q
  simp only [asgG] at ev
  split at ev
  · cases ev
    have hN : X.N.Nodup := hh.N ▸ hh.nd
    have hi' : X.N[i]? = some x := by rw [hh.N]; exact ixOf0 hi
    obtain ⟨l1, l2⟩ := hh.loc x hl
    refine dv_name hN hi' (own_mem ?_ hi) l1 l2 q
    unfold locB at hl
    simpa using hl
  · cases ev
theorem svs_of (hE : ∀ e ie, cG k s e = some ie → SV s e ie) : ∀ {es : List Expr} {is : List IG}, es.any isStar = false → optAll (es.map (cG k s)) = some is → SVs s es is
  | [], is, _, h => by
    cases optAll_nil h
    intro hb C n X F hh g ρ ρ' ds N ev q
    simp only [asgL] at ev
    split at ev
    · rename_i hd
      cases ev
      subst hd
      exact ⟨dvs_nil q, rfl⟩
    · cases ev
  | e :: es, is, hs, h => by
    obtain ⟨i, is', h1, h2, rfl⟩ := optAll_cons h
    rw [List.any_cons, Bool.or_eq_false_iff] at hs
    intro hb C n X F hh g ρ ρ' ds N ev q
    cases ds with
    | nil => simp only [asgL] at ev; cases ev
    | cons d ds =>
      simp only [asgL] at ev
      obtain ⟨_, ρ1, e1, ev⟩ := bind_ok ev
      obtain ⟨r1, r2⟩ := svs_of hE hs.2 h2 hb hh g ev q
      exact ⟨dvs_cons (by rw [asg_cons hs.1]; rfl) (hE e i h1 hb hh g e1 r1), by simp [r2]⟩
theorem sv_tup {is : List IG} {kk : Nat} (hs : es.any isStar = false) (hE : SVs s es is) : SV s (.Tuple es kk pos) (.tp is) := by
  intro hb C n X F hh g ρ ρ' d N ev q
  haveI := g.fit
  cases d with
  | tup ds =>
    simp only [asgG] at ev
    obtain ⟨r1, r2⟩ := hE hb hh g ev q
    obtain ⟨l1, l2⟩ := asg_len (env := X.env) hs
    exact dv_tup g.calm l1 l2 r2 r1
  | _ => simp only [asgG] at ev; cases ev
/-- a comprehension's test -/
def STc (s : SC) (ifs : List Expr) (ic : Option IT) : Prop := (ifs = [] ∧ ic = none) ∨ ∃ c it, ifs = [c] ∧ ic = some it ∧ ST s c it
theorem lcD_ok {tg elt : Expr} {ifs : List Expr} {scope : Scope} {ig : IG} {ie : IE} {ic : Option IT} (hh : Here s X) (g : Glo C n s.G s.A s.P X F) (hV : SV { s with sc := scope, blk := true } tg ig) (hE : SE { s with sc := scope, blk := true } elt ie) (hT : STc { s with sc := scope, blk := true } ifs ic) :
    ∀ (xs : List D) (acc : List D) (ρ ρ' : En) (ys : List D) (K : List D → En → Prop), acc.length + xs.length ≤ sizeLine →
    lcD (fun x ρ => (asgG C ig x (wipeE ρ (vsOf { s with sc := scope, blk := true }))).bind fun _ ρ => (evC C ic ρ).bind fun k ρ =>
        if k = true then (evE C ie ρ).bind fun y ρ => .ok (some y.fz) (wipeE ρ (vsOf { s with sc := scope, blk := true })) else .ok none (wipeE ρ (vsOf { s with sc := scope, blk := true }))) xs ρ = .ok ys ρ' →
    K (acc ++ ys) ρ' → DLc X F scope (vsOf { s with sc := scope, blk := true }) tg ifs elt xs acc ρ K := by
  intro xs
  induction xs with
  | nil =>
    intro acc ρ ρ' ys K hz ev q
    simp only [lcD] at ev
    cases ev
    rw [List.append_nil] at q
    exact q
  | cons x xs ih =>
    intro acc ρ ρ' ys K hz ev q
    simp only [lcD] at ev
    obtain ⟨o, ρ1, e1, ev⟩ := bind_ok ev
    obtain ⟨zs, ρ2, e2, ev⟩ := bind_ok ev
    cases ev
    obtain ⟨_, ρ3, e3, e1⟩ := bind_ok e1
    obtain ⟨kb, ρ4, e4, e1⟩ := bind_ok e1
    rw [List.length_cons] at hz
    intro st H0 Ca cl fp
    have hhB := here_blk hh scope st H0 Ca cl fp
    have gB : Glo C n s.G s.A s.P (X.blk st H0 scope (compEnvC scope cl Ca X.env) fp) F := g.blk
    refine hV rfl hhB gB e3 ?_
    have rest : (if kb = true then InB X scope fun Y => DE Y F elt ρ4 fun y ρ3 => acc.length < sizeLine ∧ DLc X F scope (vsOf { s with sc := scope, blk := true }) tg ifs elt xs (acc ++ [y.fz]) (wipeE ρ3 (vsOf { s with sc := scope, blk := true })) K
        else DLc X F scope (vsOf { s with sc := scope, blk := true }) tg ifs elt xs acc (wipeE ρ4 (vsOf { s with sc := scope, blk := true })) K) := by
      cases kb with
      | true =>
        rw [if_pos rfl] at e1 ⊢
        obtain ⟨y, ρ5, e5, e1⟩ := bind_ok e1
        cases e1
        intro st' H0' Ca' cl' fp'
        refine hE (here_blk hh scope st' H0' Ca' cl' fp') (g.blk) e5 ⟨by omega, ?_⟩
        refine ih (acc ++ [y.fz]) _ ρ' zs K (by rw [List.length_append]; simp; omega) e2 ?_
        rw [List.append_assoc]
        exact q
      | false =>
        rw [if_neg (by decide)] at e1 ⊢
        cases e1
        exact ih acc _ ρ' zs K (by omega) e2 q
    rcases hT with ⟨rfl, rfl⟩ | ⟨c, it, rfl, rfl, hT⟩
    · simp only [evC] at e4
      cases e4
      exact rest
    · simp only [evC] at e4
      intro st' H0' Ca' cl' fp'
      exact hT (here_blk hh scope st' H0' Ca' cl' fp') (g.blk) e4 rest
theorem blk_ok {scope : Scope} (hh : Here s X) (h : blkB s scope = true) : BlkOk X.N X.env.scope scope (ownOf s.N scope) := by
  have ho : ∀ p ∈ ownOf s.N scope, X.N[p.2]? = some p.1 := by
    intro p hp
    unfold ownOf at hp
    obtain ⟨⟨x, kd⟩, h1, h2⟩ := List.mem_filterMap.mp hp
    simp only at h2
    split at h2
    · obtain ⟨i, h3, rfl⟩ := Option.map_eq_some_iff.mp h2
      rw [hh.N]
      exact ixOf0 h3
    · cases h2
  have b := blkOk_of (N := s.N) (fun p hp => hh.N ▸ ho p hp) h
  exact ⟨b.kind, b.uniq, ho, fun y hy e => hh.fre _ (b.free y hy e), by rw [hh.N]; exact b.own⟩
theorem r_lcm {tg iter elt : Expr} {ifs : List Expr} {scope : Scope} {ig : IG} {ii : II} {ie : IE} {ic : Option IT} (hset : isSetD iter = false) (hb : blkB s scope = true) (hl : ifs.length ≤ 1) (hV : SV { s with sc := scope, blk := true } tg ig) (hI : SI s (isTup tg).isSome iter ii) (hE : SE { s with sc := scope, blk := true } elt ie) (hT : STc { s with sc := scope, blk := true } ifs ic)
    (hh : Here s X) (g : Glo C n s.G s.A s.P X F) (ev : evE C (.lcm ie (vsOf { s with sc := scope, blk := true }) ig ii ic) ρ = .ok d ρ') (q : Q d ρ') : DE X F (.ListComp elt [⟨tg, iter, ifs, 0⟩] scope pos) ρ Q := by
  haveI := g.fit
  simp only [evE] at ev
  obtain ⟨xs, ρ1, e1, ev⟩ := bind_ok ev
  split at ev
  · rename_i hz
    obtain ⟨ys, ρ2, e2, ev⟩ := bind_ok ev
    cases ev
    refine d_lc g.calm (hh.N ▸ hh.nd) (blk_ok hh hb) hl (folded_no hset) (hI hh g id e1 fun hs D' => ?_)
    exact lcD_ok hh g.also.out hV hE hT xs [] _ _ ys _ (by simpa using hz) e2 q
  · cases ev
end
end Ev

end
section -- Eb
set_option maxRecDepth 100000
set_option maxHeartbeats 8000000
/-! All expressions. -/
namespace Ev
open PySem PySem.Spec L2 Sx Dx
open PyProof.Rows hiding St
structure All (k : Nat) : Prop where
  E : ∀ s e ie, cE k s e = some ie → SE s e ie
  M : ∀ s o m es kws ie apos pos, cM k s o m es kws = some ie → isSuper o = false → es.any isStar = false → (apos.endLine == pos.line) = true → es.length + kws.length + 1 < 30 → SE s (.Call (.Attribute o m apos) es kws pos) ie
  O : ∀ s o io, cO k s o = some io → SP s o io
  A : ∀ s mu es is, cA k s mu es = some is → es.any isStar = false → SA s es is
  T : ∀ s e it, cT k s e = some it → ST s e it
  I : ∀ s tp e ii, cI k s tp e = some ii → SI s tp e ii
  G : ∀ s e ig, cG k s e = some ig → SG s e ig ∧ SV s e ig
section
variable {C : Cal} {n k : Nat} {s : SC} {X : Cx} {F : Fx} {ρ ρ' ρ1 : En} {Q : DQ} {QB : Bool → En → Prop} {x y z d : D} {i j : Nat} {nm : Str} {pos p fp apos np : Pos} {e a b c o : Expr} {es ks : List Expr} {σ : St} {H : Hp}
theorem r_cst_gl {x : Str} {np' : Nat} {dfl : List D} (hx : globOf s x = some (.cls np' dfl)) (hh : Here s X) (g : Glo C n s.G s.A s.P X F) (q : Q (.gl x) ρ) : DE X F (.Name x pos) ρ Q := fun σ H ok => by
  obtain ⟨gl, gk⟩ := glob_of hx
  obtain ⟨m1, _⟩ := glo_nm gl
  obtain ⟨a, hm, hc⟩ := g.glc x _ _ gk
  exact e_glob (v := .ref a) (hh.glo x gl) hm rfl m1 (res_same ok (.gl hc) q)
theorem r_cst_fn {x : Str} {mu : List Bool} {dfl : List D} (hx : globOf s x = some (.fn mu dfl)) (hh : Here s X) (g : Glo C n s.G s.A s.P X F) (q : Q (.fn x) ρ) : DE X F (.Name x pos) ρ Q := fun σ H ok => by
  obtain ⟨gl, gk⟩ := glob_of hx
  obtain ⟨m1, _⟩ := glo_nm gl
  obtain ⟨a, hm, hc⟩ := g.glf x _ _ gk
  exact e_glob (v := .ref a) (hh.glo x gl) hm rfl m1 (res_same ok (.fn hc) q)
theorem isName_eq {e : Expr} {x : Str} (h : isNameE e = some x) : ∃ p, e = .Name x p := by
  cases e with
  | Name y p => cases h; exact ⟨p, rfl⟩
  | _ => cases h
theorem r_chn {op op' : CmpOp} {ia ib ic : IE} (h1 : isSetD b = false) (h2 : isSetD c = false) (hA : SE s a ia) (hB : SE s b ib) (hC : SE s c ic) : SE s (.Compare a [op, op'] [b, c] pos) (.chn op op' ia ib ic) := by
  intro C n X F hh g ρ ρ' d Q ev q
  simp only [evE] at ev
  obtain ⟨x, ρ1, e1, ev⟩ := bind_ok ev
  obtain ⟨y, ρ2, e2, ev⟩ := bind_ok ev
  obtain ⟨kb, ρ3, e3, ev⟩ := bind_ok ev
  refine d_chain (marks2_no h2) (hA hh g e1 (hB hh g e2 (do_cmpO g e3 ⟨kb, rfl, ?_⟩)))
  cases kb with
  | true =>
    rw [if_pos rfl] at ev ⊢
    obtain ⟨z, ρ4, e4, ev⟩ := bind_ok ev
    obtain ⟨kc, ρ5, e5, ev⟩ := bind_ok ev
    cases ev
    exact hC hh g e4 (do_cmpO g e5 q)
  | false =>
    rw [if_neg (by decide)] at ev ⊢
    cases ev
    exact q
theorem dw_of {op : BoolOp} {vs : List Expr} (h : DT X F (.BoolOp op vs pos) ρ QB) : DW X F (.BoolOp op vs pos) ρ QB := fun σ H ok wh pins s I => h σ H ok pins s I
theorem dt_chain {op op' : CmpOp} (hm : lastMarks [op, op'] [b, c] = false) (q : DE X F a ρ fun x ρ1 => DE X F b ρ1 fun y ρ2 => DO X F (compareOp op) x.fz y.fz ρ2 fun z ρ3 => ∃ k, z = .bl k ∧ (if k = true then DE X F c ρ3 fun u ρ4 => DO X F (compareOp op') y.fz u.fz ρ4 fun w ρ5 => ∃ k, w = .bl k ∧ QB k ρ5 else QB false ρ3)) :
    DT X F (.Compare a [op, op'] [b, c] pos) ρ QB := fun σ H ok => by
  refine rt_of (pt_chain (ro _) (ro _) (re a) (re b) (re c) hm) ?_
  refine de_run q ok fun v H1 x ρ1 ok1 r1 k1 q1 => de_run q1 ok1 fun u H2 y ρ2 ok2 r2 k2 q2 => ro_mono (q2 σ H2 v u ok2 (r1.step k2.mut) r2) fun z H3 ⟨d, ρ3, res, k3, k, hd, q⟩ => ?_
  subst hd
  refine ⟨k, res.fz.2.blV, ?_⟩
  cases k with
  | false => exact iteF ⟨false, rfl, ρ3, res.ok, (k1.trans k2).trans k3, q⟩
  | true => exact iteT (de_run (show DE X F c ρ3 _ from q) res.ok fun t H4 y4 ρ4 ok4 r4 k4 q4 => ro_mono (q4 σ H4 u t ok4 ((r2.step k3.mut).step k4.mut) r4) fun z H5 ⟨d, ρ5, res, k5, k6, hd, q⟩ => by
      subst hd
      exact ⟨k6, res.fz.2.blV, ρ5, res.ok, (((k1.trans k2).trans k3).trans k4).trans k5, q⟩)
theorem all_zero : All 0 where
  E := fun s e ie h => by simp [cE] at h
  M := fun s o m es kws ie apos pos h => by simp [cM] at h
  O := fun s o io h => by simp [cO] at h
  A := fun s mu es is h => by simp [cA] at h
  T := fun s e it h => by simp [cT] at h
  I := fun s tp e ii h => by simp [cI] at h
  G := fun s e ig h => by simp [cG] at h
theorem stepO (ih : All k) (s : SC) (o : Option Expr) (io : Option IE) (h : cO (k + 1) s o = some io) : SP s o io := by
  intro C n X F hh g ρ ρ' b Q ev q
  cases o with
  | none =>
    simp only [cO] at h
    cases h
    simp only [evP] at ev
    cases ev
    exact q
  | some e =>
    simp only [cO] at h
    obtain ⟨ie, h1, rfl⟩ := Option.map_eq_some_iff.mp h
    simp only [evP] at ev
    obtain ⟨t, ρ1, e1, ev⟩ := bind_ok ev
    obtain ⟨i, rfl, rfl, rfl⟩ := theI_ok ev
    exact ih.E s e ie h1 hh g e1 ⟨i, rfl, q⟩
theorem stepA (ih : All k) (s : SC) (mu : List Bool) (es : List Expr) (is : List IA) (h : cA (k + 1) s mu es = some is) (hs : es.any isStar = false) : SA s es is := by
  intro C n X F hh g ρ ρ' as Q ev q
  cases es with
  | nil =>
    simp only [cA] at h
    cases h
    simp only [evA] at ev
    cases ev
    exact da_nil q
  | cons e es =>
    rw [List.any_cons, Bool.or_eq_false_iff] at hs
    simp only [cA] at h
    split at h
    · rename_i ia r h1 h2
      cases h
      simp only [evA] at ev
      obtain ⟨a1, ρ1, e1, ev⟩ := bind_ok ev
      obtain ⟨as', ρ2, e2, ev⟩ := bind_ok ev
      cases ev
      have rest : DA X F es ρ1 fun as ρ'' => Q (a1 :: as) ρ'' := ih.A s mu.tail es r h2 hs.2 hh g e2 q
      have plain : ∀ ie, cE k s e = some ie → evA1 C (.of ie) ρ = .ok a1 ρ1 → DA X F (e :: es) ρ Q := fun ie hie ev => by
        simp only [evA1] at ev
        obtain ⟨t, ρ3, e3, ev⟩ := bind_ok ev
        cases ev
        exact da_cons (star_cons hs.1) (ih.E s e ie hie hh g e3 rest)
      split at h1
      · rename_i x hx
        obtain ⟨np, rfl⟩ := isName_eq hx
        split at h1
        · obtain ⟨i, hsl, rfl⟩ := Option.map_eq_some_iff.mp h1
          simp only [evA1] at e1
          obtain ⟨v, hi⟩ := slot_of hsl
          obtain ⟨n1, n2⟩ := vis_nm v
          have hi' : X.N[i]? = some x := by rw [hh.N]; exact hi
          split at e1
          · rename_i hm
            cases e1
            have hd : ∃ d, ρ[i]? = some (some d) := by
              unfold mvAt at hm
              split at hm
              · rename_i d hd; exact ⟨d, hd⟩
              · cases hm
            exact da_lend hi' hd (hh.vis x v) n1 n2 (star_cons rfl) rest
          · obtain ⟨t, ρ3, e3, e1⟩ := bind_ok e1
            cases e1
            exact da_cons (star_cons rfl) (r_var hh hsl e3 rest)
        · obtain ⟨ie, hie, rfl⟩ := Option.map_eq_some_iff.mp h1
          exact plain ie hie e1
      · obtain ⟨ie, hie, rfl⟩ := Option.map_eq_some_iff.mp h1
        exact plain ie hie e1
    · cases h
theorem optAll_len {α β : Type} {f : α → Option β} : ∀ {l : List α} {r : List β}, optAll (l.map f) = some r → r.length = l.length
  | [], r, h => by cases optAll_nil h; rfl
  | a :: l, r, h => by
    obtain ⟨b, rs, _, h2, rfl⟩ := optAll_cons h
    simp [optAll_len h2]
theorem ite_skip {α : Type} {c : Prop} [Decidable c] {x y : α} {r : Option α} (h : (if c then some x else r) = some y) (n : x ≠ y) : r = some y := by
  by_cases hc : c
  · rw [if_pos hc] at h; exact (n (Option.some.inj h)).elim
  · rw [if_neg hc] at h; exact h
theorem bm_bits {m : Str} (h : bmOf m = some .bitLength) : m = "bit_length" := by
  by_cases e : m = "bit_length"
  · exact e
  · unfold bmOf at h
    rw [if_neg e] at h
    have h := ite_skip (ite_skip (ite_skip (ite_skip (ite_skip (ite_skip (ite_skip (ite_skip (ite_skip (ite_skip (ite_skip (ite_skip (ite_skip h (by decide)) (by decide)) (by decide)) (by decide)) (by decide)) (by decide)) (by decide)) (by decide)) (by decide)) (by decide)) (by decide)) (by decide)) (by decide)
    cases h
theorem stepM (ih : All k) (s : SC) (o : Expr) (m : Str) (es : List Expr) (kws : List Keyword) (ie : IE) (apos pos : Pos) (h : cM (k + 1) s o m es kws = some ie) (hb : isSuper o = false) (hs : es.any isStar = false) (hl : (apos.endLine == pos.line) = true) (hn : es.length + kws.length + 1 < 30) : SE s (.Call (.Attribute o m apos) es kws pos) ie := by
  simp only [cM] at h
  split at h
  · rename_i bm hbm
    split at h
    · rename_i hk
      split at h
      · rename_i io is h1 h2
        cases h
        cases kws with
        | cons _ _ => cases hk
        | nil =>
          intro C n X F hh g ρ ρ' d Q ev q
          -- of the built-in methods just one
          have ev0 := ev
          simp only [evE] at ev
          obtain ⟨t, ρ1, e1, ev⟩ := bind_ok ev
          obtain ⟨ds, ρ2, e2, ev⟩ := bind_ok ev
          obtain ⟨h3, rfl⟩ := lift_ok ev
          unfold metD at h3
          split at h3
          · have hm := bm_bits hbm
            subst hm
            have hl0 := optAll_len h2
            cases is with
            | nil =>
              cases es with
              | nil => exact r_bits hb hl (ih.E s o io h1) hh g ev0 q
              | cons _ _ => cases hl0
            | cons i is =>
              simp only [evL] at e2
              obtain ⟨t2, ρ4, e4, e2⟩ := bind_ok e2
              obtain ⟨t3, ρ5, e5, e2⟩ := bind_ok e2
              cases e2
          · cases h3
      · cases h
    · cases h
  · split at h
    · split at h
      · rename_i io is h1 h2
        cases h
        intro C n X F hh g ρ ρ' d Q ev q
        exact r_met (optAll_len h2) hb hs hl (by simpa using hn) (ih.E s o io h1) (sl_of (fun e ie => ih.E s e ie) hs h2) hh g ev q
      · cases h
    · rename_i kw e kp
      split at h
      · rename_i hk
        rw [Bool.and_eq_true] at hk
        split at h
        · rename_i io ie h1 h2
          cases h
          cases es with
          | cons _ _ => cases hk.1
          | nil =>
            intro C n X F hh g ρ ρ' d Q ev q
            exact r_metK hb hl (eq_of_beq hk.2) (ih.E s o io h1) (ih.E s e ie h2) hh g ev q
        · cases h
      · cases h
    · cases h
theorem stepT (ih : All k) (s : SC) (e : Expr) (it : IT) (h : cT (k + 1) s e = some it) : ST s e it := by
  have plain : isBool e = false → ((cE k s e).map IT.of) = some it → ST s e it := fun hb h => by
    obtain ⟨ie, h1, rfl⟩ := Option.map_eq_some_iff.mp h
    intro C n X F hh g ρ ρ' b Q ev q
    haveI := g.fit
    simp only [evT] at ev
    obtain ⟨t, ρ1, e1, ev⟩ := bind_ok ev
    obtain ⟨h2, rfl⟩ := lift_ok ev
    exact dt_val (truth_no hb) (ih.E s e ie h1 hh g e1 (dtr_truD h2 q))
  simp only [cT] at h
  split at h
  · rename_i a pos
    obtain ⟨ia, h1, rfl⟩ := Option.map_eq_some_iff.mp h
    intro C n X F hh g ρ ρ' b Q ev q
    simp only [evT] at ev
    obtain ⟨kb, ρ1, e1, ev⟩ := bind_ok ev
    cases ev
    exact dt_not (ih.T s a ia h1 hh g e1 q)
  · rename_i a op b pos
    split at h
    · cases h
    · rename_i hset
      split at h
      · rename_i ia ib h1 h2
        cases h
        intro C n X F hh g ρ ρ' b Q ev q
        simp only [evT] at ev
        obtain ⟨x, ρ1, e1, ev⟩ := bind_ok ev
        obtain ⟨y, ρ2, e2, ev⟩ := bind_ok ev
        exact dt_cmp (marks_no (by simpa using hset)) (ih.E _ _ _ h1 hh g e1 (ih.E _ _ _ h2 hh g e2 (do_cmpO g ev ⟨_, rfl, q⟩)))
      · cases h
  · rename_i a op op' b c pos
    split at h
    · cases h
    · rename_i hset
      split at h
      · rename_i ia ib ic h1 h2 h3
        cases h
        have hset : isSetD b = false ∧ isSetD c = false := by simpa using hset
        intro C n X F hh g ρ ρ' b Q ev q
        simp only [evT] at ev
        obtain ⟨x, ρ1, e1, ev⟩ := bind_ok ev
        obtain ⟨y, ρ2, e2, ev⟩ := bind_ok ev
        obtain ⟨kb, ρ3, e3, ev⟩ := bind_ok ev
        refine dt_chain (marks2_no hset.2) (ih.E _ _ _ h1 hh g e1 (ih.E _ _ _ h2 hh g e2 (do_cmpO g e3 ⟨kb, rfl, ?_⟩)))
        cases kb with
        | true =>
          rw [if_pos rfl] at ev ⊢
          obtain ⟨z, ρ4, e4, ev⟩ := bind_ok ev
          exact ih.E _ _ _ h3 hh g e4 (do_cmpO g ev ⟨_, rfl, q⟩)
        | false =>
          rw [if_neg (by decide)] at ev ⊢
          cases ev
          exact q
      · cases h
  · rename_i op a pos
    have hT := ih.T s a it h
    intro C n X F hh g ρ ρ' b Q ev q
    cases op with
    | And => exact dt_pw (dw_and1 (hT hh g ev q))
    | Or => exact dt_pw (dw_or1 (hT hh g ev q))
  · rename_i op a b es pos
    split at h
    · rename_i ia ib h1 h2
      cases h
      intro C n X F hh g ρ ρ' kk Q ev q
      simp only [evT] at ev
      obtain ⟨kb, ρ1, e1, ev⟩ := bind_ok ev
      refine dt_pw (dw_and (ih.T _ _ _ h1 hh g e1 ?_))
      cases kb with
      | true =>
        rw [if_pos rfl] at ev ⊢
        exact dw_of (ih.T _ _ _ h2 hh g ev q)
      | false =>
        rw [if_neg (by decide)] at ev ⊢
        cases ev
        exact q
    · rename_i ia ib h1 h2
      cases h
      intro C n X F hh g ρ ρ' kk Q ev q
      simp only [evT] at ev
      obtain ⟨kb, ρ1, e1, ev⟩ := bind_ok ev
      refine dt_pw (dw_or (ih.T _ _ _ h1 hh g e1 ?_))
      cases kb with
      | true =>
        rw [if_pos rfl] at ev ⊢
        cases ev
        exact q
      | false =>
        rw [if_neg (by decide)] at ev ⊢
        exact dw_of (ih.T _ _ _ h2 hh g ev q)
    · cases h
  · cases h
  · cases h
  · cases h
  · rename_i n1 n2 n3 n4 n5 n6 n7 n8
    refine plain ?_ h
    cases e with
    | UnaryOp op a pos => cases op <;> first | rfl | exact (n1 _ _ rfl).elim
    | BoolOp op vs pos => exact (n8 _ _ _ rfl).elim
    | Compare a ops cs pos => exact (n7 _ _ _ _ rfl).elim
    | IfExp _ _ _ _ => exact (n6 _ _ _ _ rfl).elim
    | _ => rfl
end
end Ev

end
section -- Ec
set_option maxRecDepth 100000
set_option maxHeartbeats 8000000
/-! All expressions: the step. -/
namespace Ev
open PySem PySem.Spec L2 Sx Dx
open PyProof.Rows hiding St
section
variable {C : Cal} {n k : Nat} {s : SC} {X : Cx} {F : Fx} {ρ ρ' ρ1 : En} {Q : DQ} {QB : Bool → En → Prop} {x y z d : D} {i j : Nat} {nm : Str} {pos p fp apos np : Pos} {e a b c o : Expr} {es ks : List Expr} {σ : St} {H : Hp}
theorem stepG (ih : All k) (s : SC) (e : Expr) (ig : IG) (h : cG (k + 1) s e = some ig) : SG s e ig ∧ SV s e ig := by
  simp only [cG] at h
  split at h
  · rename_i x pos
    split at h
    · rename_i hc
      rw [Bool.and_eq_true] at hc
      obtain ⟨i, h1, rfl⟩ := Option.map_eq_some_iff.mp h
      exact ⟨sg_name hc.1 h1, sv_name hc.1 h1⟩
    · cases h
  · rename_i es kk pos
    split at h
    · cases h
    · rename_i hs
      have hs : es.any isStar = false := by simpa using hs
      obtain ⟨is, h1, rfl⟩ := Option.map_eq_some_iff.mp h
      exact ⟨sg_tup hs (sgs_of (fun e ie h => (ih.G s e ie h).1) hs h1), sv_tup hs (svs_of (fun e ie h => (ih.G s e ie h).2) hs h1)⟩
  · rename_i o i pos
    split at h
    · cases h
    · rename_i hc
      have hc : s.blk = false ∧ plainIx i = true := by simpa using hc
      split at h
      · rename_i x hx
        obtain ⟨np, rfl⟩ := isName_eq hx
        split at h
        · rename_i j ii h1 h2
          cases h
          exact ⟨sg_sub hc.2 h1 (ih.E s i ii h2), fun hb => by rw [hc.1] at hb; cases hb⟩
        · cases h
      · cases h
  · cases h
theorem stepI (ih : All k) (s : SC) (tp : Bool) (e : Expr) (ii : II) (h : cI (k + 1) s tp e = some ii) : SI s tp e ii := by
  simp only [cI] at h
  split at h
  · rename_i x fp es pos
    split at h
    · rename_i hc
      have hc : ((gloB s x = true ∧ x = "range") ∧ es.any isStar = false) ∧ es.isEmpty = false := by simpa using hc
      obtain ⟨is, h1, rfl⟩ := Option.map_eq_some_iff.mp h
      obtain ⟨⟨⟨hg, rfl⟩, hs⟩, he⟩ := hc
      exact si_rng tp hs (fun e ie h => ih.E s e ie h) h1 hg
    · split at h
      · rename_i hc
        have hc : gloB s x = true ∧ x = "enumerate" := by simpa using hc
        obtain ⟨hg, rfl⟩ := hc
        split at h
        · rename_i e _
          split at h
          · cases h
          · rename_i hb
            have hb : isStar e = false ∧ tp = true := by simpa using hb
            obtain ⟨ie, h1, rfl⟩ := Option.map_eq_some_iff.mp h
            obtain ⟨hs, rfl⟩ := hb
            exact si_enu hs (ih.E s e ie h1) hg
        · cases h
      · obtain ⟨ie, h1, rfl⟩ := Option.map_eq_some_iff.mp h
        exact si_of tp (ih.E s _ ie h1)
  · obtain ⟨ie, h1, rfl⟩ := Option.map_eq_some_iff.mp h
    exact si_of tp (ih.E s _ ie h1)
/-- a call of a name of the module -/
theorem stepC (ih : All k) (s : SC) {x : Str} {e : Expr} {es : List Expr} {ie : IE} {fp pos : Pos} (hs : (e :: es).any isStar = false)
    (h : (match globOf s x with
      | some (.blt .len) => match (e :: es) with
        | [.Name y _] => (slotOf s y).map IE.lev
        | es => (optAll (es.map (cE k s))).map (IE.blt .len)
      | some (.blt b) => (optAll ((e :: es).map (cE k s))).map (IE.blt b)
      | some (.bty b _) => (optAll ((e :: es).map (cE k s))).map (IE.blt b)
      | some (.fn mu dfl) => match mu, (e :: es) with
        | true :: _, .Call (.Name g _) es' [] _ :: ks => if es'.any isStar || es'.isEmpty then none else match globOf s g with
          | some (.fn mu' _) => match cA k s mu' es', optAll (ks.map (cE k s)) with
            | some es', some ks => some (.cas x g es' ks)
            | _, _ => none
          | _ => none
        | _, _ => match dflOf mu.length (e :: es).length dfl, cA k s mu (e :: es) with
          | some df, some es => some (.cal x es df)
          | _, _ => none
      | some (.cls np dfl) => match dflOf np (e :: es).length dfl, optAll ((e :: es).map (cE k s)) with
        | some df, some es => some (.mak x es df)
        | _, _ => none
      | _ => none) = some ie) : SE s (.Call (.Name x fp) (e :: es) [] pos) ie := by
  intro C n X F hh g ρ ρ' d Q ev q
  have blt : ∀ (f : Bf) (kd : GK), globOf s x = some kd → (kd = .blt f ∨ ∃ T, kd = .bty f T) → ((optAll ((e :: es).map (cE k s))).map (IE.blt f)) = some ie → DE X F (.Call (.Name x fp) (e :: es) [] pos) ρ Q := fun f kd hx hk h => by
    obtain ⟨is, h1, rfl⟩ := Option.map_eq_some_iff.mp h
    exact r_blt hx hk hs (sl_of (fun e ie => ih.E s e ie) hs h1) hh g ev q
  split at h
  · rename_i hx
    split at h
    · rename_i y np hy
      cases hy
      obtain ⟨i, h1, rfl⟩ := Option.map_eq_some_iff.mp h
      simp only [evE] at ev
      exact r_lev (bf := .blt .len) hx h1 hh g ev q
    · exact blt .len _ hx (.inl rfl) h
  · rename_i b nb hx
    exact blt b _ hx (.inl rfl) h
  · rename_i b T hx
    exact blt b _ hx (.inr ⟨T, rfl⟩) h
  · rename_i mu dfl hx
    split at h
    · rename_i r y fp2 es' pos2 ks hq
      cases hq
      split at h
      · cases h
      · rename_i hc
        have hc : es'.any isStar = false ∧ es'.isEmpty = false := by simpa using hc
        split at h
        · rename_i mu' dfl' hy
          split at h
          · rename_i is ik h1 h2
            cases h
            rw [List.any_cons, Bool.or_eq_false_iff] at hs
            cases es' with
            | nil => cases hc.2
            | cons e' es' => exact r_cas hx hy hc.1 hs.2 (ih.A s mu' _ _ h1 hc.1) (sl_of (fun e ie => ih.E s e ie) hs.2 h2) hh g ev q
          · cases h
        · cases h
    · split at h
      · rename_i df is h1 h2
        cases h
        exact r_cal hx h1 hs (ih.A s _ _ _ h2 hs) hh g ev q
      · cases h
  · rename_i np' dfl hx
    split at h
    · rename_i df is h1 h2
      cases h
      exact r_mak hx h1 hs (sl_of (fun e ie => ih.E s e ie) hs h2) hh g ev q
    · cases h
  · cases h
end
end Ev

end
section -- Ed
set_option maxRecDepth 100000
set_option maxHeartbeats 8000000
/-! All expressions: the end. -/
namespace Ev
open PySem PySem.Spec L2 Sx Dx
open PyProof.Rows hiding St
section
variable {C : Cal} {n k : Nat} {s : SC} {X : Cx} {F : Fx} {ρ ρ' ρ1 : En} {Q : DQ} {QB : Bool → En → Prop} {x y z d : D} {i j : Nat} {nm : Str} {pos p fp apos np : Pos} {e a b c o : Expr} {es ks : List Expr} {σ : St} {H : Hp}
theorem stepCmp (ih : All k) (s : SC) {ops : List CmpOp} {cs : List Expr} {ie : IE} (h : cE (k + 1) s (.Compare a ops cs pos) = some ie) : SE s (.Compare a ops cs pos) ie := by
  match ops, cs, h with
  | [op], [b], h =>
    simp only [cE] at h
    split at h
    · cases h
    · rename_i hset
      split at h
      · rename_i ia ib h1 h2
        cases h
        intro C n X F hh g ρ ρ' d Q ev q
        simp only [evE] at ev
        obtain ⟨x, ρ1, e1, ev⟩ := bind_ok ev
        obtain ⟨y, ρ2, e2, ev⟩ := bind_ok ev
        obtain ⟨kb, ρ3, e3, ev⟩ := bind_ok ev
        cases ev
        exact d_cmp (marks_no (by simpa using hset)) (ih.E _ _ _ h1 hh g e1 (ih.E _ _ _ h2 hh g e2 (do_cmpO g e3 q)))
      · cases h
  | [op, op'], [b, c], h =>
    simp only [cE] at h
    split at h
    · cases h
    · rename_i hset
      have hset : isSetD b = false ∧ isSetD c = false := by simpa using hset
      split at h
      · rename_i ia ib ic h1 h2 h3
        cases h
        exact r_chn hset.1 hset.2 (ih.E _ _ _ h1) (ih.E _ _ _ h2) (ih.E _ _ _ h3)
      · cases h
  | [], _, h => simp [cE] at h
  | [_], [], h => simp [cE] at h
  | [_], _ :: _ :: _, h => simp [cE] at h
  | [_, _], [], h => simp [cE] at h
  | [_, _], [_], h => simp [cE] at h
  | [_, _], _ :: _ :: _ :: _, h => simp [cE] at h
  | _ :: _ :: _ :: _, _, h => simp [cE] at h
theorem stepBool (ih : All k) (s : SC) {op : BoolOp} {vs : List Expr} {ie : IE} (h : cE (k + 1) s (.BoolOp op vs pos) = some ie) : SE s (.BoolOp op vs pos) ie := by
  match vs, h with
  | [], h => simp [cE] at h
  | [a], h =>
    simp only [cE] at h
    intro C n X F hh g ρ ρ' d Q ev q
    exact d_one (ih.E s a ie h hh g ev q)
  | a :: b :: es, h =>
    simp only [cE] at h
    split at h
    · rename_i ia ib h1 _ h2
      cases h
      intro C n X F hh g ρ ρ' d Q ev q
      simp only [evE] at ev
      obtain ⟨x, ρ1, e1, ev1⟩ := bind_ok ev
      clear ev
      obtain ⟨kb, ρ2, e2, ev⟩ := bind_ok ev1
      clear ev1
      obtain ⟨rfl, rfl⟩ := theB_ok e2
      refine d_and (ih.E _ _ _ h1 hh g e1 ⟨kb, rfl, ?_⟩)
      cases kb with
      | true =>
        rw [if_pos rfl] at ev ⊢
        exact ih.E _ _ _ h2 hh g ev q
      | false =>
        rw [if_neg (by decide)] at ev ⊢
        cases ev
        exact q
    · rename_i ia ib h1 _ h2
      cases h
      intro C n X F hh g ρ ρ' d Q ev q
      simp only [evE] at ev
      obtain ⟨x, ρ1, e1, ev1⟩ := bind_ok ev
      clear ev
      obtain ⟨kb, ρ2, e2, ev⟩ := bind_ok ev1
      clear ev1
      obtain ⟨rfl, rfl⟩ := theB_ok e2
      refine d_or (ih.E _ _ _ h1 hh g e1 ⟨kb, rfl, ?_⟩)
      cases kb with
      | true =>
        rw [if_pos rfl] at ev ⊢
        cases ev
        exact q
      | false =>
        rw [if_neg (by decide)] at ev ⊢
        exact ih.E _ _ _ h2 hh g ev q
    · cases h
theorem stepLc (ih : All k) (s : SC) {elt : Expr} {gens : List Comprehension} {scope : Scope} {ie : IE} (h : cE (k + 1) s (.ListComp elt gens scope pos) = some ie) : SE s (.ListComp elt gens scope pos) ie := by
  cases gens with
  | nil => simp [cE] at h
  | cons g0 r =>
  cases r with
  | cons _ _ => simp [cE] at h
  | nil =>
  obtain ⟨tg, iter, ifs, m⟩ := g0
  by_cases hm : m = 0
  · subst hm
    simp only [cE] at h
    split at h
    · cases h
    · rename_i hc
      have hc : isSetD iter = false ∧ blkB s scope = true := by simpa using hc
      split at h
      · rename_i ig ii ielt ic h1 h2 h3 h4
        cases h
        have hT : ifs.length ≤ 1 ∧ STc { s with sc := scope, blk := true } ifs ic := by
          match ifs, h4 with
          | [], h4 => cases h4; exact ⟨by simp, .inl ⟨rfl, rfl⟩⟩
          | [c], h4 =>
            obtain ⟨it, h5, rfl⟩ := Option.map_eq_some_iff.mp h4
            exact ⟨by simp, .inr ⟨c, it, rfl, rfl, ih.T _ _ _ h5⟩⟩
          | _ :: _ :: _, h4 => cases h4
        intro C n X F hh g ρ ρ' d Q ev q
        exact r_lcm hc.1 hc.2 hT.1 (ih.G _ _ _ h1).2 (ih.I _ _ _ _ h2) (ih.E _ _ _ h3) hT.2 hh g ev q
      · cases h
  · simp [cE, hm] at h
theorem stepSub (ih : All k) (s : SC) {ie : IE} (h : cE (k + 1) s (.Subscript a b pos) = some ie) : SE s (.Subscript a b pos) ie := by
  have plain : ∀ b, (if plainIx b = true then match isNameE a with
        | some x => match slotOf s x, cE k s b with
          | some i, some b => some (IE.idv i b)
          | _, _ => none
        | none => match cE k s a, cE k s b with
          | some a, some b => some (IE.idx a b)
          | _, _ => none
      else none) = some ie → SE s (.Subscript a b pos) ie := by
    clear h
    intro b h
    split at h
    · rename_i hp
      split at h
      · rename_i x hx
        obtain ⟨np, rfl⟩ := isName_eq hx
        split at h
        · rename_i i ib hsl h2
          cases h
          intro C n X F hh g ρ ρ' d Q ev q
          exact r_idv hp hsl (ih.E _ _ _ h2) hh g ev q
        · cases h
      · split at h
        · rename_i ia ib h1 h2
          cases h
          intro C n X F hh g ρ ρ' d Q ev q
          haveI := g.fit
          simp only [evE] at ev
          obtain ⟨x, ρ1, e1, ev⟩ := bind_ok ev
          obtain ⟨y, ρ2, e2, ev⟩ := bind_ok ev
          obtain ⟨h3, rfl⟩ := lift_ok ev
          exact d_ix (plain_ix hp) (ih.E _ _ _ h1 hh g e1 (ih.E _ _ _ h2 hh g e2 (dix_idxD h3 q)))
        · cases h
    · cases h
  cases b with
  | Slice lo hi st p2 =>
    cases st with
    | none =>
      simp only [cE] at h
      split at h
      · rename_i ia il ih' h1 h2 h3
        cases h
        intro C n X F hh g ρ ρ' d Q ev q
        haveI := g.fit
        simp only [evE] at ev
        obtain ⟨x, ρ1, e1, ev⟩ := bind_ok ev
        obtain ⟨l, ρ2, e2, ev⟩ := bind_ok ev
        obtain ⟨u, ρ3, e3, ev⟩ := bind_ok ev
        obtain ⟨h4, rfl⟩ := lift_ok ev
        exact d_sl (ih.E _ _ _ h1 hh g e1 (ih.O _ _ _ h2 hh g e2 (ih.O _ _ _ h3 hh g e3 (dsl_slcD h4 q))))
      · cases h
    | some _ => simp only [cE] at h; exact plain _ h
  | _ => simp only [cE] at h; exact plain _ h
theorem stepAtt (ih : All k) (s : SC) {m : Str} {kws : List Keyword} {ie : IE} (h : cE (k + 1) s (.Call (.Attribute o m apos) es kws pos) = some ie) : SE s (.Call (.Attribute o m apos) es kws pos) ie := by
  simp only [cE] at h
  split at h
  · cases h
  · rename_i hc
    have hc : (es.any isStar = false ∧ isSuper o = false) ∧ ((apos.endLine == pos.line) = true ∧ es.length + kws.length + 1 < 30) := by
      simp only [Bool.or_eq_true, not_or, Bool.not_eq_true, Bool.not_eq_false', Bool.and_eq_true, decide_eq_true_eq] at hc
      exact ⟨⟨hc.1.1, hc.1.2⟩, hc.2.1.1, hc.2.1.2⟩
    obtain ⟨⟨hs, hb⟩, hl, hn⟩ := hc
    have rest : cM k s o m es kws = some ie → SE s (.Call (.Attribute o m apos) es kws pos) ie := fun h => ih.M s o m es kws ie apos pos h hb hs hl hn
    split at h
    · rename_i o' m' es' kws' x m2 e2 hx
      obtain ⟨np, rfl⟩ := isName_eq hx
      have he : isStar e2 = false := by simpa using hs
      split at h
      · rename_i hm
        subst hm
        split at h
        · rename_i i ie' hsl h2
          cases h
          intro C n X F hh g ρ ρ' d Q ev q
          exact r_app he hl hsl (ih.E _ _ _ h2) hh g ev q
        · cases h
      · split at h
        · rename_i hm
          subst hm
          split at h
          · rename_i i ie' hsl h2
            cases h
            intro C n X F hh g ρ ρ' d Q ev q
            exact r_pop he hl hsl (ih.E _ _ _ h2) hh g ev q
          · cases h
        · exact rest h
    · exact rest h
theorem stepCall (ih : All k) (s : SC) {f : Expr} {kws : List Keyword} {ie : IE} (h : cE (k + 1) s (.Call f es kws pos) = some ie) : SE s (.Call f es kws pos) ie := by
  cases f with
  | Name x fp =>
    cases kws with
    | nil =>
      simp only [cE] at h
      split at h
      · cases h
      · rename_i hc
        have hc : es.any isStar = false ∧ es.isEmpty = false := by simpa using hc
        cases es with
        | nil => cases hc.2
        | cons e es => exact stepC ih s hc.1 h
    | cons _ _ => simp [cE] at h
  | Attribute o m apos => exact stepAtt ih s h
  | _ => simp [cE] at h
theorem stepE (ih : All k) (s : SC) (e : Expr) (ie : IE) (h : cE (k + 1) s e = some ie) : SE s e ie := by
  cases e with
  | Constant cv j pos =>
    simp only [cE] at h
    split at h
    · cases h
      intro C n X F hh g ρ ρ' d Q ev q
      simp only [evE] at ev
      cases ev
      exact d_non q
    · cases h
      intro C n X F hh g ρ ρ' d Q ev q
      simp only [evE] at ev
      cases ev
      exact d_bl q
    · cases h
      intro C n X F hh g ρ ρ' d Q ev q
      simp only [evE] at ev
      cases ev
      exact d_int q
    · cases h
      intro C n X F hh g ρ ρ' d Q ev q
      simp only [evE] at ev
      cases ev
      exact d_str q
    · cases h
  | Name x pos =>
    simp only [cE] at h
    intro C n X F hh g ρ ρ' d Q ev q
    split at h
    · rename_i i hsl
      cases h
      simp only [evE] at ev
      exact r_var hh hsl ev q
    · split at h
      · rename_i b T hx
        cases h
        simp only [evE] at ev
        cases ev
        obtain ⟨gl, gk⟩ := glob_of hx
        obtain ⟨m1, _⟩ := glo_nm gl
        obtain ⟨hm, hn, hb0, hb, hv⟩ := g.bty x _ T gk
        exact d_bltTy (hh.glo x gl) hm hv hn m1 q
      · rename_i kv hx
        cases h
        simp only [evE] at ev
        cases ev
        obtain ⟨gl, gk⟩ := glob_of hx
        obtain ⟨m1, _⟩ := glo_nm gl
        obtain ⟨tk, hm⟩ := g.int x kv gk
        exact d_globI (hh.glo x gl) hm m1 q
      · rename_i hx
        cases h
        simp only [evE] at ev
        cases ev
        exact r_cst_gl hx hh g q
      · rename_i hx
        cases h
        simp only [evE] at ev
        cases ev
        exact r_cst_fn hx hh g q
      · cases h
  | BinOp a op b pos =>
    simp only [cE] at h
    split at h
    · rename_i ia ib h1 h2
      cases h
      intro C n X F hh g ρ ρ' d Q ev q
      simp only [evE] at ev
      obtain ⟨x, ρ1, e1, ev⟩ := bind_ok ev
      obtain ⟨y, ρ2, e2, ev⟩ := bind_ok ev
      exact d_bin (ih.E _ _ _ h1 hh g e1 (ih.E _ _ _ h2 hh g e2 (do_binO g ev q)))
    · cases h
  | UnaryOp op a pos =>
    simp only [cE] at h
    split at h
    · rename_i ia h1
      cases h
      intro C n X F hh g ρ ρ' d Q ev q
      simp only [evE] at ev
      obtain ⟨x, ρ1, e1, ev⟩ := bind_ok ev
      obtain ⟨kb, rfl, rfl, rfl⟩ := notO_ok ev
      exact d_not (ih.E _ _ _ h1 hh g e1 ⟨kb, rfl, q⟩)
    · rename_i ia hno h1
      cases h
      intro C n X F hh g ρ ρ' d Q ev q
      simp only [evE] at ev
      obtain ⟨x, ρ1, e1, ev⟩ := bind_ok ev
      exact d_un (ih.E _ _ _ h1 hh g e1 (du_unO g ev q))
    · cases h
  | Compare a ops cs pos => exact stepCmp ih s h
  | BoolOp op vs pos => exact stepBool ih s h
  | IfExp c a b pos =>
    simp only [cE] at h
    split at h
    · rename_i ic ia ib h1 h2 h3
      cases h
      intro C n X F hh g ρ ρ' d Q ev q
      simp only [evE] at ev
      obtain ⟨kb, ρ1, e1, ev⟩ := bind_ok ev
      refine d_if (ih.T _ _ _ h1 hh g e1 ?_)
      cases kb with
      | true =>
        rw [if_pos rfl] at ev ⊢
        exact ih.E _ _ _ h2 hh g ev q
      | false =>
        rw [if_neg (by decide)] at ev ⊢
        exact ih.E _ _ _ h3 hh g ev q
    · cases h
  | Tuple es kk pos =>
    simp only [cE] at h
    split at h
    · cases h
    · rename_i hs
      have hs : es.any isStar = false := by simpa using hs
      obtain ⟨is, h1, rfl⟩ := Option.map_eq_some_iff.mp h
      intro C n X F hh g ρ ρ' d Q ev q
      simp only [evE] at ev
      obtain ⟨ds, ρ1, e1, ev⟩ := bind_ok ev
      split at ev
      · rename_i hz
        cases ev
        exact d_tup (sl_of (fun e ie => ih.E s e ie) hs h1 hh g e1 ⟨ds, agV_map ds, hz, q⟩)
      · cases ev
  | List es pos =>
    simp only [cE] at h
    split at h
    · cases h
    · rename_i hs
      have hs : es.any isStar = false := by simpa using hs
      obtain ⟨is, h1, rfl⟩ := Option.map_eq_some_iff.mp h
      intro C n X F hh g ρ ρ' d Q ev q
      simp only [evE] at ev
      obtain ⟨ds, ρ1, e1, ev⟩ := bind_ok ev
      split at ev
      · rename_i hz
        cases ev
        exact d_lst (sl_of (fun e ie => ih.E s e ie) hs h1 hh g e1 ⟨ds, agV_map ds, hz, q⟩)
      · cases ev
  | Attribute a f pos =>
    simp only [cE] at h
    split at h
    · cases h
    · rename_i hb
      have hb : isSuper a = false := by simpa using hb
      split at h
      · rename_i ia hA h1
        cases h
        intro C n X F hh g ρ ρ' d Q ev q
        exact r_fld hb (ih.E _ _ _ h1) hh g ev q
      · rename_i ia hA h1
        cases h
        intro C n X F hh g ρ ρ' d Q ev q
        exact r_prp hb (ih.E _ _ _ h1) hh g ev q
      · cases h
  | ListComp elt gens scope pos => exact stepLc ih s h
  | Subscript a b pos => exact stepSub ih s h
  | Call f es kws pos => exact stepCall ih s h
  | _ => simp [cE] at h
theorem all : ∀ k, All k
  | 0 => all_zero
  | k + 1 => {
      E := stepE (all k)
      M := stepM (all k)
      O := stepO (all k)
      A := stepA (all k)
      T := stepT (all k)
      I := stepI (all k)
      G := stepG (all k) }
end
end Ev

end
section -- Ee
set_option maxRecDepth 100000
set_option maxHeartbeats 8000000
/-! Statements. -/
namespace Ev
open PySem PySem.Spec L2 Sx Dx
open PyProof.Rows hiding St
def flE (E : DEnds) : Flow → En → Prop
  | .nx, ρ => E.nx ρ
  | .ret d, ρ => E.rt d ρ
  | .bk, ρ => E.bk ρ
  | .ct, ρ => E.ct ρ
def SS (s : SC) (st : Stmt) (is : IS) : Prop := s.blk = false → ∀ ⦃C : Cal⦄ ⦃n : Nat⦄ ⦃X : Cx⦄ ⦃F : Fx⦄, Here s X → Glo C n s.G s.A s.P X F → ∀ ⦃ρ ρ' : En⦄ ⦃fl : Flow⦄ ⦃E : DEnds⦄, evS C is ρ = .ok fl ρ' → flE E fl ρ' → DS X F st E ρ
def SB (s : SC) (sts : List Stmt) (is : List IS) : Prop := s.blk = false → ∀ ⦃C : Cal⦄ ⦃n : Nat⦄ ⦃X : Cx⦄ ⦃F : Fx⦄, Here s X → Glo C n s.G s.A s.P X F → ∀ ⦃ρ ρ' : En⦄ ⦃fl : Flow⦄ ⦃E : DEnds⦄, evB C is ρ = .ok fl ρ' → flE E fl ρ' → DSs X F sts E ρ
section
variable {C : Cal} {n k : Nat} {s : SC} {X : Cx} {F : Fx} {ρ ρ' ρ1 : En} {Q : DQ} {QB : Bool → En → Prop} {x y z d : D} {i j : Nat} {nm : Str} {pos p fp apos np : Pos} {e a b c o : Expr} {es ks : List Expr} {σ : St} {H : Hp} {E : DEnds} {fl : Flow} {body : List Stmt} {ib : List IS}
theorem then_ok {o : Out Flow En} {k : En → Out Flow En} (h : thenF o k = .ok fl ρ') : (∃ ρ1, o = .ok .nx ρ1 ∧ k ρ1 = .ok fl ρ') ∨ (o = .ok fl ρ' ∧ fl ≠ .nx) := by
  cases o with
  | ok f ρ1 =>
    cases f with
    | nx => exact .inl ⟨ρ1, rfl, h⟩
    | ret d => cases h; exact .inr ⟨rfl, fun e => by cases e⟩
    | bk => cases h; exact .inr ⟨rfl, fun e => by cases e⟩
    | ct => cases h; exact .inr ⟨rfl, fun e => by cases e⟩
  | exn x s => cases h
  | stuck => cases h
theorem sto_ok {d : D} (h : stoD i d ρ = .ok fl ρ') : fl = .nx ∧ i < ρ.length ∧ ρ' = ρ.set i (some d) := by
  unfold stoD at h
  split at h
  · rename_i hl; cases h; exact ⟨rfl, hl, rfl⟩
  · cases h
/-- for -/
theorem dfor_ok {tg : Expr} {ig : IG} {hs : List HF} (hb : s.blk = false) (hh : Here s X) (g : Glo C n s.G s.A s.P X F) (hG : SG s tg ig) (hB : SB s body ib) : ∀ {xs : List D} {ρ ρ' : En} {fl : Flow}, forD (fun x ρ => (asgG C ig x ρ).bind fun _ ρ => evB C ib ρ) xs ρ = .ok fl ρ' → flE E fl ρ' → DFor X (F.also hs) tg body E xs ρ
  | [], ρ, ρ', fl, ev, q => by
    unfold forD at ev
    cases ev
    exact q
  | x :: xs, ρ, ρ', fl, ev, q => by
    unfold forD at ev
    have go : ∀ {f : Flow} {ρ1 : En} {E' : DEnds}, (asgG C ig x ρ).bind (fun _ ρ => evB C ib ρ) = .ok f ρ1 → flE E' f ρ1 → DG X (F.also hs) tg x ρ fun ρ1 => DSs X (F.also hs) body E' ρ1 := fun h q => by
      obtain ⟨_, ρ2, e1, e2⟩ := bind_ok h
      exact hG hb hh g.also e1 (hB hb hh g.also e2 q)
    show DG X (F.also hs) tg x ρ fun ρ1 => DSs X (F.also hs) body ⟨DFor X (F.also hs) tg body E xs, E.rt, E.nx, DFor X (F.also hs) tg body E xs⟩ ρ1
    generalize ho : (asgG C ig x ρ).bind (fun _ ρ => evB C ib ρ) = o at ev
    cases o with
    | ok f ρ1 =>
      cases f with
      | nx => exact go ho (dfor_ok hb hh g hG hB ev q)
      | ct => exact go ho (dfor_ok hb hh g hG hB ev q)
      | bk => cases ev; exact go ho q
      | ret d => cases ev; exact go ho q
    | exn x s => cases ev
    | stuck => cases ev
/-- while, by the turns left -/
theorem ds_whl {W : Nat → En → Prop} {m : Nat} (hp : PassesOwn (model X.prog X.w) X.A X.env X.xe) (h0 : W m ρ)
    (hs : ∀ m ρ, W m ρ → DT X F c ρ fun b ρ1 => if b = true then DSs X F body ⟨fun ρ' => ∃ m', m' < m ∧ W m' ρ', E.rt, E.nx, fun ρ' => ∃ m', m' < m ∧ W m' ρ'⟩ ρ1 else E.nx ρ1) : DS X F (.While c body [] pos) E ρ := fun σ H ok => by
  refine rs_of (ps_while hp (rt c) (rss body)) ?_
  refine ⟨fun m σ H => ∃ ρ, Ok F H σ ρ ∧ W m ρ, ⟨m, ρ, ok, h0⟩, ?_⟩
  rintro m σ H ⟨ρ, ok, hw⟩
  intro pins s I
  refine thn (dt_run (R := fun b H1 => if b = true then RSs X body ⟨fun σ' H' => ∃ m', m' < m ∧ ∃ ρ, Ok F H' σ' ρ ∧ W m' ρ, upR F E.rt, up F E.nx, fun σ' H' => ∃ m', m' < m ∧ ∃ ρ, Ok F H' σ' ρ ∧ W m' ρ⟩ σ H1 else up F E.nx σ H1) (hs m ρ hw) ok (fun b H1 ρ1 ok1 k1 q1 => ?_) pins s I) fun b s' ⟨H1, I1, q⟩ => ⟨H1, I1, ?_⟩
  · cases b with
    | true => exact iteT (rsx_mono ((show DSs X F body _ ρ1 from q1) σ H1 ok1) (fun σ' H' ⟨ρ', ok', m', l, w⟩ => ⟨m', l, ρ', ok', w⟩) (fun _ _ h => h) (fun _ _ h => h) (fun σ' H' ⟨ρ', ok', m', l, w⟩ => ⟨m', l, ρ', ok', w⟩))
    | false => exact iteF ⟨ρ1, ok1, q1⟩
  · cases b with
    | true => exact ⟨_, fun σ' H' ⟨m', l, h⟩ => ⟨m', l, h⟩, q⟩
    | false => exact q
theorem whl_ok {ic : IT} (hb : s.blk = false) (hT : ST s c ic) (hB : SB s body ib) (hh : Here s X) (g : Glo C n s.G s.A s.P X F) {m : Nat} (ev : whlD (evT C ic) (evB C ib) m ρ = .ok fl ρ') (q : flE E fl ρ') : DS X F (.While c body [] pos) E ρ := by
  refine ds_whl (W := fun m ρ => ∃ fl ρ', whlD (evT C ic) (evB C ib) m ρ = .ok fl ρ' ∧ flE E fl ρ') (hh.pass hb) ⟨fl, ρ', ev, q⟩ ?_
  rintro m ρ ⟨fl, ρ', ev, q⟩
  cases m with
  | zero => cases ev
  | succ m =>
    unfold whlD at ev
    obtain ⟨kb, ρ1, e1, ev⟩ := bind_ok ev
    refine hT hh g e1 ?_
    cases kb with
    | false =>
      rw [if_neg (by decide)] at ev ⊢
      cases ev
      exact q
    | true =>
      rw [if_pos rfl] at ev ⊢
      generalize ho : evB C ib ρ1 = o at ev
      cases o with
      | ok f ρ2 =>
        cases f with
        | nx => exact hB hb hh g ho ⟨m, Nat.lt_succ_self m, fl, ρ', ev, q⟩
        | ct => exact hB hb hh g ho ⟨m, Nat.lt_succ_self m, fl, ρ', ev, q⟩
        | bk => cases ev; exact hB hb hh g ho q
        | ret d => cases ev; exact hB hb hh g ho q
      | exn x s => cases ev
      | stuck => cases ev
theorem swp_eq {ts vs : List Expr} {k k2 : Nat} {pt pv : Pos} {env : Env} {r : Option (List Str)} (hk : env.scope.kind = .function) (h : swpOf env.scope ts vs = some r) : swappedStores [.Tuple ts k pt] (.Tuple vs k2 pv) env = pure r := by
  have hbk : env.blockKind = .function := by
    unfold Env.blockKind
    rw [hk]; rfl
  unfold swappedStores
  unfold swpOf at h
  simp only [hbk]
  have e1 : ∀ f : Expr → Bool, (∀ x, f x = isStar x) → vs.any f = vs.any isStar := fun f hf => by rw [show f = isStar from funext hf]
  have e2 : ∀ f f' : Expr → Option Str, (∀ x, f x = f' x) → ts.filterMap f = ts.filterMap f' := fun f f' hf => by rw [show f = f' from funext hf]
  rw [e1 _ (fun x => by cases x <;> rfl)]
  simp only [] at h ⊢
  rw [e2 _ (fun x => match x with
      | Expr.Name id pos => if (env.scope.names.lookup id == some NameKind.local && pos.line == (Option.map (fun x => x.pos.line) ts.head?).getD 0) = true then some id else none
      | _ => none) (fun x => by cases x <;> rfl)] at h ⊢
  have e3 : (!(ts.length == 2 || ts.length == 3) || vs.length != ts.length || ScopeKind.function != ScopeKind.function) = (!(ts.length == 2 || ts.length == 3) || vs.length != ts.length) := by
    rw [show (ScopeKind.function != ScopeKind.function) = false from rfl, Bool.or_false]
  rw [e3]
  split at h
  · rename_i h1; cases h; rw [if_pos h1]
  · rename_i h1
    rw [if_neg h1]
    split at h
    · rename_i h2; cases h; rw [if_pos h2]
    · rename_i h2
      rw [if_neg h2]
      split at h
      · rename_i h3; cases h; rw [if_pos h3]
      · rename_i h3
        rw [if_neg h3]
        split at h
        · rename_i h4; cases h; rw [if_pos h4]
        · rename_i h4
          rw [if_neg h4]
          split at h
          · cases h
          · rename_i h5; cases h; rw [if_neg h5]
theorem swp_none {t e : Expr} {env : Env} (hl : ∀ ts p, t ≠ .List ts p) (h : tupPair t e = none) : swappedStores [t] e env = pure none := by
  cases t with
  | List ts p => exact (hl ts p rfl).elim
  | Tuple ts k p =>
    cases e with
    | Tuple vs k2 p2 => cases h
    | _ => rfl
  | _ => rfl
end
end Ev

end
section -- Ef
set_option maxRecDepth 100000
set_option maxHeartbeats 8000000
/-! Statements: assignments. -/
namespace Ev
open PySem PySem.Spec L2 Sx Dx
open PyProof.Rows hiding St
section
variable {C : Cal} {n k : Nat} {s : SC} {X : Cx} {F : Fx} {ρ ρ' ρ1 : En} {Q : DQ} {QB : Bool → En → Prop} {x y z d : D} {i j : Nat} {nm : Str} {pos p fp apos np : Pos} {e a b c o : Expr} {es ks : List Expr} {σ : St} {H : Hp} {E : DEnds} {fl : Flow} {body : List Stmt} {ib : List IS}
/-- the names that are stored one by one -/
inductive Par (sc : Scope) : List Expr → List Str → Prop where
  | nil : Par sc [] []
  | cons {x : Str} {p : Pos} {ts : List Expr} {ns : List Str} (h : sc.names.lookup x = some .local) (r : Par sc ts ns) : Par sc (.Name x p :: ts) (x :: ns)
theorem par_of {sc : Scope} {g : Expr → Option Str} (hg : ∀ e x, g e = some x → ∃ p, e = .Name x p ∧ sc.names.lookup x = some .local) : ∀ {ts : List Expr}, (ts.filterMap g).length = ts.length → Par sc ts (ts.filterMap g)
  | [], _ => .nil
  | t :: ts, h => by
    rw [List.filterMap_cons] at h ⊢
    cases hx : g t with
    | none =>
      simp only [hx] at h
      have := List.length_filterMap_le g ts
      rw [List.length_cons] at h
      omega
    | some x =>
      simp only [hx] at h
      obtain ⟨p, rfl, hl⟩ := hg t x hx
      exact .cons hl (par_of hg (by simpa using h))
theorem swp_some {sc : Scope} {ts vs : List Expr} {ns : List Str} (h : swpOf sc ts vs = some (some ns)) : Par sc ts ns ∧ ns.eraseDups.length = ns.length ∧ (ts.length = 2 ∨ ts.length = 3) ∧ vs.length = ts.length ∧ vs.any isStar = false := by
  unfold swpOf at h
  split at h
  · cases h
  · rename_i h1
    split at h
    · cases h
    · rename_i h2
      simp only [] at h
      split at h
      · cases h
      · rename_i h3
        split at h
        · cases h
        · split at h
          · cases h
          · have hns := Option.some.inj (Option.some.inj h)
            rw [Bool.not_eq_true, Bool.or_eq_false_iff] at h1 h3
            rw [hns] at h3
            have l1 : ns.length = ts.length := by simpa using h3.1
            have l2 : ns.eraseDups.length = ns.length := by simpa using h3.2
            have l3 : vs.length = ts.length := by simpa using h1.2
            have l4 : ts.length = 2 ∨ ts.length = 3 := by
              have := h1.1
              simp at this
              omega
            refine ⟨?_, l2, l4, l3, by simpa using h2⟩
            rw [← hns] at l1 ⊢
            refine par_of (fun e x hx => ?_) l1
            cases e with
            | Name id pos =>
              simp only [] at hx
              split at hx
              · rename_i hc
                cases hx
                rw [Bool.and_eq_true] at hc
                exact ⟨pos, rfl, eq_of_beq hc.1⟩
              · cases hx
            | _ => cases hx
theorem dup2 {x y : Str} (h : [x, y].eraseDups.length = [x, y].length) : x ≠ y := by
  rintro rfl
  rw [List.eraseDups_cons] at h
  simp at h
theorem dup3 {x y z : Str} (h : [x, y, z].eraseDups.length = [x, y, z].length) : x ≠ y ∧ x ≠ z ∧ y ≠ z := by
  by_cases e1 : y = x
  · subst e1
    by_cases e2 : z = y
    · subst e2; simp [List.eraseDups_cons] at h
    · simp [List.eraseDups_cons, e2] at h
  · by_cases e2 : z = x
    · subst e2; simp [List.eraseDups_cons, e1] at h
    · by_cases e3 : z = y
      · subst e3; simp [List.eraseDups_cons, e1] at h
      · exact ⟨fun e => e1 e.symm, fun e => e2 e.symm, fun e => e3 e.symm⟩
theorem zipV_look {α : Type} : ∀ {N : List Str} {ρ : List (Option α)} {i : Nat} {x : Str} {o : Option α}, N.Nodup → N[i]? = some x → ρ[i]? = some o → (N.zip ρ).lookup x = some o
  | [], _, _, _, _, _, h, _ => by simp at h
  | n :: ns, [], i, x, o, _, _, h => by simp at h
  | n :: ns, r :: rs, 0, x, o, _, h1, h2 => by
    simp at h1 h2
    subst h1
    subst h2
    rw [List.zip_cons_cons, List.lookup_cons]
    simp
  | n :: ns, r :: rs, i + 1, x, o, nd, h1, h2 => by
    have h1' : ns[i]? = some x := by simpa using h1
    have hne : (x == n) = false := by
      rw [beq_eq_false_iff_ne]
      exact fun e => (List.nodup_cons.mp nd).1 (e ▸ List.mem_of_getElem? h1')
    rw [List.zip_cons_cons, List.lookup_cons, hne]
    exact zipV_look (List.nodup_cons.mp nd).2 h1' (by simpa using h2)
theorem r_set {x : Str} {ie : IE} (hb : s.blk = false) (hl : locB s x = true) (hi : ixOf x s.N 0 = some i) (hE : SE s e ie) (hs : isComp e = false ∨ swapsWith e (some (.Name x p)) pos.line X.env = pure false) (hh : Here s X) (g : Glo C n s.G s.A s.P X F) (ev : evS C (.set i ie) ρ = .ok fl ρ') (q : flE E fl ρ') : DS X F (.Assign [.Name x p] e pos) E ρ := by
  simp only [evS] at ev
  obtain ⟨d, ρ1, e1, ev⟩ := bind_ok ev
  obtain ⟨rfl, hlen, rfl⟩ := sto_ok ev
  obtain ⟨l1, l2⟩ := hh.loc x hl
  refine ds_sto (hh.N ▸ hh.nd) (by rw [hh.N]; exact ixOf0 hi) l1 l2 ?_ (hE hh g e1 q)
  rcases hs with hs | hs
  · exact swaps_no hs
  · exact hs
/-- a comprehension stored at once -/
theorem ds_setLcO {y : Str} {py spos : Pos} {scope : Scope} {own : List (Str × Nat)} {elt iter tg : Expr} {ifs : List Expr} (hc : X.calm = true) (hN : X.N.Nodup) (h : X.N[i]? = some y) (hyl : X.env.scope.names.lookup y = some .local)
    (hsw : swapsWith (.ListComp elt [⟨tg, iter, ifs, 0⟩] scope pos) (some (.Name y py)) spos.line X.env = pure true) (ok : BlkOk X.N X.env.scope scope own) (hl : ifs.length ≤ 1) (hs : ∀ x, foldedSetIterable iter X.env x = pure x)
    (q : DI X F tg iter ρ fun ds ρ1 => ∀ hs D', DLc X ((F.also hs).out D') scope (own.map (·.2)) tg ifs elt ds [] ρ1 fun acc ρ2 => E.nx (ρ2.set i (some (D.own (.lst acc))))) : DS X F (.Assign [.Name y py] (.ListComp elt [⟨tg, iter, ifs, 0⟩] scope pos) spos) E ρ := fun σ H ok0 => by
  obtain ⟨wi, hi, q⟩ := q
  have hy : X.N.contains y = true := by simpa using List.mem_of_getElem? h
  refine s_setLcI (σ := σ) hc hN hy hyl hsw hi ok hl hs ?_
  refine q σ H _ ok0 fun J H1 ρ1 hs ds ok1 k1 it q => ?_
  refine lcR (Q := fun d ρ2 => E.nx (ρ2.set i (some d))) ok0 ok1 k1 it (fun D' => q hs D') fun v H2 d ρ' r k q1 => ?_
  rw [setN_eq h hN]
  cases r with
  | rep ok r => exact ⟨_, ok.set r, q1⟩
  | own ha h0 no nb nm ok1 r => exact ⟨_, ok1.setOwn ha h0 no nb nm r, q1⟩
theorem r_setLc {x : Str} {tg iter elt : Expr} {ifs : List Expr} {scope : Scope} {ig : IG} {ii : II} {ie : IE} {ic : Option IT} {spos : Pos} (hset : isSetD iter = false) (hb : blkB s scope = true) (hl : ifs.length ≤ 1) (hV : SV { s with sc := scope, blk := true } tg ig) (hI : SI s (isTup tg).isSome iter ii) (hE : SE { s with sc := scope, blk := true } elt ie) (hT : STc { s with sc := scope, blk := true } ifs ic)
    (hi : ixOf x s.N 0 = some i) (hxl : X.env.scope.names.lookup x = some .local) (hsw : swapsWith (.ListComp elt [⟨tg, iter, ifs, 0⟩] scope pos) (some (.Name x p)) spos.line X.env = pure true)
    (hh : Here s X) (g : Glo C n s.G s.A s.P X F) (ev : evS C (.set i (.lcm ie (vsOf { s with sc := scope, blk := true }) ig ii ic)) ρ = .ok fl ρ') (q : flE E fl ρ') : DS X F (.Assign [.Name x p] (.ListComp elt [⟨tg, iter, ifs, 0⟩] scope pos) spos) E ρ := by
  haveI := g.fit
  simp only [evS] at ev
  obtain ⟨d, ρ0, e0, ev⟩ := bind_ok ev
  obtain ⟨rfl, hlen, rfl⟩ := sto_ok ev
  simp only [evE] at e0
  obtain ⟨xs, ρ1, e1, ev⟩ := bind_ok e0
  split at ev
  · rename_i hz
    obtain ⟨ys, ρ2, e2, ev⟩ := bind_ok ev
    cases ev
    refine ds_setLcO g.calm (hh.N ▸ hh.nd) (by rw [hh.N]; exact ixOf0 hi) hxl hsw (blk_ok hh hb) hl (folded_no hset) (hI hh g id e1 fun hs D' => ?_)
    exact lcD_ok hh g.also.out hV hE hT xs [] _ _ ys _ (by simpa using hz) e2 q
  · cases ev
/-- x.f = e -/
theorem r_att {x c f : Str} {ie : IE} (hc : isComp e = false) (hA : s.A f = some true) (hsl : slotOf s x = some i) (hE : SE s e ie) (hh : Here s X) (g : Glo C n s.G s.A s.P X F) (ev : evS C (.asg (.att i c f) ie) ρ = .ok fl ρ') (q : flE E fl ρ') : DS X F (.Assign [.Attribute (.Name x np) f p] e pos) E ρ := by
  haveI := g.fit
  simp only [evS] at ev
  obtain ⟨d, ρ1, e1, ev⟩ := bind_ok ev
  obtain ⟨_, ρ2, e2, ev⟩ := bind_ok ev
  cases ev
  obtain ⟨v, hi⟩ := slot_of hsl
  obtain ⟨n1, n2⟩ := vis_nm v
  simp only [asgG] at e2
  unfold fldO at e2
  split at e2
  · rename_i d0 hd0
    split at e2
    · rename_i c' fs hm
      split at e2
      · rename_i hcc
        cases e2
        obtain ⟨rfl, hl⟩ := hcc
        exact ds_fld (by rw [hh.N]; exact hi) (hh.vis x v) n1 n2 (swaps_no hc) (fun C' hC' => g.fld f c' C' hA hC') (hE hh g e1 ⟨d0, fs, hd0, hm, hl, q⟩)
      · cases e2
    · cases e2
  · cases e2
/-- x op= e -/
theorem r_aug {x : Str} {op : Operator} {ie : IE} (hop : augOk op = true) (hl : locB s x = true) (hi : ixOf x s.N 0 = some i) (hE : SE s e ie) (hh : Here s X) (g : Glo C n s.G s.A s.P X F) (ev : evS C (.aug i op ie) ρ = .ok fl ρ') (q : flE E fl ρ') : DS X F (.AugAssign (.Name x p) op e pos) E ρ := by
  haveI := g.fit
  simp only [evS] at ev
  obtain ⟨a, ρ1, e1, ev⟩ := bind_ok ev
  obtain ⟨b, ρ2, e2, ev⟩ := bind_ok ev
  obtain ⟨c, ρ3, e3, ev⟩ := bind_ok ev
  obtain ⟨rfl, hlen, rfl⟩ := sto_ok ev
  obtain ⟨l1, l2⟩ := hh.loc x hl
  have hN : X.N.Nodup := hh.N ▸ hh.nd
  have hi' : X.N[i]? = some x := by rw [hh.N]; exact ixOf0 hi
  cases a with
  | int u =>
    cases b with
    | int w =>
      simp only [augO] at e3
      obtain ⟨h4, rfl⟩ := lift_ok e3
      obtain ⟨z, hz, rfl⟩ := Option.map_eq_some_iff.mp h4
      have hr : ρ[i]? = some (some (.int u)) ∧ ρ1 = ρ := by
        unfold getVar at e1
        split at e1
        · rename_i m hm
          cases m <;> cases e1
        · cases e1
        · rename_i d1 _ _ hd
          cases e1
          exact ⟨hd, rfl⟩
        · cases e1
      obtain ⟨hr, rfl⟩ := hr
      intro σ H ok
      obtain ⟨vv, s1, s2⟩ := ok.slot i _ hr
      have hv : vv = .int u := by
        cases s2 with
        | rep r => cases r; rfl
      subst hv
      refine s_aug hN l1 l2 (zipV_look hN hi' s1) (de_run (hE hh g e2 (Q := fun d ρ2 => d = .int w ∧ E.nx (ρ2.set i (some (.int z)))) ⟨rfl, q⟩) ok fun y H1 x1 ρ4 ok1 r1 k1 ⟨q1, q2⟩ => ?_)
      subst q1
      cases r1
      cases op with
      | Add =>
        cases hz
        refine ip_addI ?_
        rw [setN_eq hi' hN]
        exact ⟨_, ok1.set (.int _), q2⟩
      | Sub =>
        cases hz
        refine rip_of ip_sub ⟨_, _, rfl, rfl, ?_⟩
        show up F E.nx (setN X.N σ x (.int (u - w))) H1
        rw [setN_eq hi' hN]
        exact ⟨_, ok1.set (.int _), q2⟩
      | _ => cases hop
    | _ => cases e3
  | _ => cases e3
end
end Ev

end
section -- Eg
set_option maxRecDepth 100000
set_option maxHeartbeats 8000000
/-! Statements: all. -/
namespace Ev
open PySem PySem.Spec L2 Sx Dx
open PyProof.Rows hiding St
section
variable {C : Cal} {n k : Nat} {s : SC} {X : Cx} {F : Fx} {ρ ρ' ρ1 : En} {Q : DQ} {QB : Bool → En → Prop} {x y z d : D} {i j : Nat} {nm : Str} {pos p fp apos np : Pos} {e a b c o : Expr} {es ks : List Expr} {σ : St} {H : Hp} {E : DEnds} {fl : Flow} {body : List Stmt} {ib : List IS}
theorem cE_tup {vs : List Expr} {kk : Nat} {ie : IE} (h : cE k s (.Tuple vs kk pos) = some ie) : ∃ k' is, vs.any isStar = false ∧ optAll (vs.map (cE k' s)) = some is ∧ ie = .tup is := by
  cases k with
  | zero => simp [cE] at h
  | succ k =>
    simp only [cE] at h
    split at h
    · cases h
    · rename_i hs
      obtain ⟨is, h1, rfl⟩ := Option.map_eq_some_iff.mp h
      exact ⟨k, is, by simpa using hs, h1, rfl⟩
theorem cG_tup {vs : List Expr} {kk : Nat} {ig : IG} (h : cG k s (.Tuple vs kk pos) = some ig) : ∃ k' is, vs.any isStar = false ∧ optAll (vs.map (cG k' s)) = some is ∧ ig = .tp is := by
  cases k with
  | zero => simp [cG] at h
  | succ k =>
    simp only [cG] at h
    split at h
    · cases h
    · rename_i hs
      obtain ⟨is, h1, rfl⟩ := Option.map_eq_some_iff.mp h
      exact ⟨k, is, by simpa using hs, h1, rfl⟩
theorem cG_nm {x : Str} {ig : IG} (h : cG k s (.Name x pos) = some ig) : ∃ i, locB s x = true ∧ ixOf x s.N 0 = some i ∧ ig = .nm i := by
  cases k with
  | zero => simp [cG] at h
  | succ k =>
    simp only [cG] at h
    split at h
    · rename_i hc
      rw [Bool.and_eq_true] at hc
      obtain ⟨i, h1, rfl⟩ := Option.map_eq_some_iff.mp h
      exact ⟨i, hc.1, h1, rfl⟩
    · cases h
theorem cG_star {ig : IG} (h : cG k s e = some ig) : isStar e = false ∧ ∀ ts p, e ≠ .List ts p := by
  cases k with
  | zero => simp [cG] at h
  | succ k =>
    cases e with
    | Starred _ _ => simp [cG] at h
    | List _ _ => simp [cG] at h
    | _ => exact ⟨rfl, fun _ _ h => by cases h⟩
theorem asgNm_ok (h : asgG C (.nm i) d ρ = .ok () ρ') : ρ' = ρ.set i (some d) := by
  simp only [asgG] at h
  split at h
  · cases h; rfl
  · cases h
theorem asgL_cons {t : IG} {ts : List IG} {ds : List D} (h : asgL C (t :: ts) ds ρ = .ok () ρ') : ∃ d ds' ρ1, ds = d :: ds' ∧ asgG C t d ρ = .ok () ρ1 ∧ asgL C ts ds' ρ1 = .ok () ρ' := by
  cases ds with
  | nil => simp only [asgL] at h; cases h
  | cons d ds =>
    simp only [asgL] at h
    obtain ⟨_, ρ1, e1, e2⟩ := bind_ok h
    exact ⟨d, ds, ρ1, rfl, e1, e2⟩
theorem asgL_nil {ds : List D} (h : asgL C [] ds ρ = .ok () ρ') : ds = [] ∧ ρ' = ρ := by
  simp only [asgL] at h
  split at h
  · rename_i e; cases h; exact ⟨e, rfl⟩
  · cases h
/-- x, y = a, b stored one by one -/
theorem r_par {ts vs : List Expr} {ns : List Str} {kt kv : Nat} {pt pv : Pos} {ig : IG} {ie : IE} {kg ke : Nat} (hb : s.blk = false) (hw : swpOf s.sc ts vs = some (some ns)) (hg : cG kg s (.Tuple ts kt pt) = some ig) (he : cE ke s (.Tuple vs kv pv) = some ie)
    (hh : Here s X) (g : Glo C n s.G s.A s.P X F) (ev : evS C (.asg ig ie) ρ = .ok fl ρ') (q : flE E fl ρ') : DS X F (.Assign [.Tuple ts kt pt] (.Tuple vs kv pv) pos) E ρ := by
  haveI := g.fit
  obtain ⟨hsc, hk⟩ := hh.sc hb
  have hN : X.N.Nodup := hh.N ▸ hh.nd
  obtain ⟨par, dup, l1, l2, st⟩ := swp_some hw
  obtain ⟨ke', is, h1, h2, rfl⟩ := cE_tup he
  obtain ⟨kg', gs, h3, h4, rfl⟩ := cG_tup hg
  have hsw : swappedStores [.Tuple ts kt pt] (.Tuple vs kv pv) X.env = pure (some ns) := swp_eq (by rw [hsc]; exact hk) (by rw [hsc]; exact hw)
  have hL : SL s vs is := sl_of (fun e ie => (all ke').E s e ie) h1 h2
  simp only [evS] at ev
  obtain ⟨d, ρ1, e1, ev⟩ := bind_ok ev
  obtain ⟨_, ρ2, e2, ev⟩ := bind_ok ev
  cases ev
  simp only [evE] at e1
  obtain ⟨ds, ρ3, e3, e1⟩ := bind_ok e1
  split at e1
  · cases e1
    have e2 : asgL C gs ds ρ1 = .ok () ρ' := by
      have := e2
      simp only [asgG] at this
      exact this
    have loc : ∀ x, s.sc.names.lookup x = some .local → X.env.scope.names.lookup x = some .local := fun x h => by rw [hsc]; exact h
    cases par with
    | nil => simp at l1
    | cons x1 par =>
    cases par with
    | nil => simp at l1
    | cons x2 par =>
    cases par with
    | nil =>
      obtain ⟨i1, gs1, c1, h5, rfl⟩ := optAll_cons h4
      obtain ⟨i2, gs2, c2, h6, rfl⟩ := optAll_cons h5
      cases optAll_nil h6
      obtain ⟨n1, _, f1, rfl⟩ := cG_nm c1
      obtain ⟨n2, _, f2, rfl⟩ := cG_nm c2
      obtain ⟨d1, ds1, ρ4, rfl, b1, e5⟩ := asgL_cons e2
      obtain ⟨d2, ds2, ρ5, rfl, b2, e6⟩ := asgL_cons e5
      obtain ⟨rfl, rfl⟩ := asgL_nil e6
      cases asgNm_ok b1
      cases asgNm_ok b2
      cases vs with
      | nil => simp at l2
      | cons v1 vs =>
      cases vs with
      | nil => simp at l2
      | cons v2 vs =>
      cases vs with
      | cons _ _ => simp at l2
      | nil =>
        have g1 := ixOf0 f1
        have g2 := ixOf0 f2
        rw [← hh.N] at g1 g2
        refine ds_par g.calm hN (by simpa using List.mem_of_getElem? g1) (by simpa using List.mem_of_getElem? g2) (dup2 dup) (loc _ x1) (loc _ x2) hsw rfl (hL hh g e3 ⟨d1, d2, rfl, ?_⟩)
        rw [setE_eq g1 hN, setE_eq g2 hN]
        exact q
    | cons x3 par =>
    cases par with
    | cons _ _ => simp at l1
    | nil =>
      obtain ⟨i1, gs1, c1, h5, rfl⟩ := optAll_cons h4
      obtain ⟨i2, gs2, c2, h6, rfl⟩ := optAll_cons h5
      obtain ⟨i3, gs3, c3, h7, rfl⟩ := optAll_cons h6
      cases optAll_nil h7
      obtain ⟨n1, _, f1, rfl⟩ := cG_nm c1
      obtain ⟨n2, _, f2, rfl⟩ := cG_nm c2
      obtain ⟨n3, _, f3, rfl⟩ := cG_nm c3
      obtain ⟨d1, ds1, ρ4, rfl, b1, e5⟩ := asgL_cons e2
      obtain ⟨d2, ds2, ρ5, rfl, b2, e6⟩ := asgL_cons e5
      obtain ⟨d3, ds3, ρ6, rfl, b3, e7⟩ := asgL_cons e6
      obtain ⟨rfl, rfl⟩ := asgL_nil e7
      cases asgNm_ok b1
      cases asgNm_ok b2
      cases asgNm_ok b3
      cases vs with
      | nil => simp at l2
      | cons v1 vs =>
      cases vs with
      | nil => simp at l2
      | cons v2 vs =>
      cases vs with
      | nil => simp at l2
      | cons v3 vs =>
      cases vs with
      | cons _ _ => simp at l2
      | nil =>
        have g1 := ixOf0 f1
        have g2 := ixOf0 f2
        have g3 := ixOf0 f3
        rw [← hh.N] at g1 g2 g3
        obtain ⟨q1, q2, q3⟩ := dup3 dup
        refine ds_par3 g.calm hN (by simpa using List.mem_of_getElem? g1) (by simpa using List.mem_of_getElem? g2) (by simpa using List.mem_of_getElem? g3) q1 q2 q3 (loc _ x1) (loc _ x2) (loc _ x3) hsw rfl (hL hh g e3 ⟨d1, d2, d3, rfl, ?_⟩)
        rw [setE_eq g1 hN, setE_eq g2 hN, setE_eq g3 hN]
        exact q
  · cases e1
/-- targets -/
theorem r_asg {ig : IG} {ie : IE} {kg ke : Nat} (hb : s.blk = false) (hc : isComp e = false) (hw : swpOk s.sc a e = true) (hg : cG kg s a = some ig) (he : cE ke s e = some ie)
    (hh : Here s X) (g : Glo C n s.G s.A s.P X F) (ev : evS C (.asg ig ie) ρ = .ok fl ρ') (q : flE E fl ρ') : DS X F (.Assign [a] e pos) E ρ := by
  obtain ⟨hsc, hk⟩ := hh.sc hb
  obtain ⟨st1, st2⟩ := cG_star hg
  have go : swappedStores [a] e X.env = pure none → DS X F (.Assign [a] e pos) E ρ := fun hsw => by
    simp only [evS] at ev
    obtain ⟨d, ρ1, e1, ev⟩ := bind_ok ev
    obtain ⟨_, ρ2, e2, ev⟩ := bind_ok ev
    cases ev
    exact ds_asg (swapsS_no hc) hsw (by rw [asg_cons st1]; rfl) ((all ke).E s e ie he hh g e1 (((all kg).G s a ig hg).1 hb hh g e2 q))
  unfold swpOk at hw
  split at hw
  · rename_i ts vs hp
    cases a with
    | Tuple ts' kt pt =>
      cases e with
      | Tuple vs' kv pv =>
        cases hp
        obtain ⟨r, hr⟩ := Option.isSome_iff_exists.mp hw
        cases r with
        | none => exact go (swp_eq (by rw [hsc]; exact hk) (by rw [hsc]; exact hr))
        | some ns => exact r_par hb hr hg he hh g ev q
      | _ => cases hp
    | _ => cases hp
  · rename_i hp
    exact go (swp_none st2 hp)
end
end Ev

end
section -- Eh
set_option maxRecDepth 100000
set_option maxHeartbeats 8000000
/-! Statements: the end. -/
namespace Ev
open PySem PySem.Spec L2 Sx Dx
open PyProof.Rows hiding St
structure AllS (k : Nat) : Prop where
  S : ∀ s st is, cS k s st = some is → SS s st is
  B : ∀ s sts is, cB k s sts = some is → SB s sts is
section
variable {C : Cal} {n k : Nat} {s : SC} {X : Cx} {F : Fx} {ρ ρ' ρ1 : En} {Q : DQ} {QB : Bool → En → Prop} {x y z d : D} {i j : Nat} {nm : Str} {pos p fp apos np : Pos} {e a b c o : Expr} {es ks : List Expr} {σ : St} {H : Hp} {E : DEnds} {fl : Flow} {body : List Stmt} {ib : List IS}
theorem comp_swap {x : Str} {sc : Scope} {elt : Expr} {gens : List Comprehension} {spos : Pos} {env : Env} : ∃ b, swapsWith (.ListComp elt gens sc pos) (some (.Name x p)) spos.line env = pure b ∧ (b = true → env.scope.names.lookup x = some .local) := by
  refine ⟨_, rfl, fun h => ?_⟩
  rw [Bool.and_eq_true, Bool.and_eq_true, Bool.and_eq_true] at h
  exact eq_of_beq h.1.1.2
theorem cE_lc {elt : Expr} {gens : List Comprehension} {scope : Scope} {ie : IE} (h : cE k s (.ListComp elt gens scope pos) = some ie) : ∃ (tg iter : Expr) (ifs : List Expr) (ig : IG) (ii : II) (ielt : IE) (ic : Option IT), gens = [⟨tg, iter, ifs, 0⟩] ∧ isSetD iter = false ∧ blkB s scope = true ∧ ifs.length ≤ 1 ∧ SV { s with sc := scope, blk := true } tg ig ∧ SI s (isTup tg).isSome iter ii ∧ SE { s with sc := scope, blk := true } elt ielt ∧ STc { s with sc := scope, blk := true } ifs ic ∧ ie = .lcm ielt (vsOf { s with sc := scope, blk := true }) ig ii ic := by
  cases k with
  | zero => simp [cE] at h
  | succ k =>
  have ih := all k
  cases gens with
  | nil => simp [cE] at h
  | cons g0 r =>
  cases r with
  | cons _ _ => simp [cE] at h
  | nil =>
  obtain ⟨tg, iter, ifs, m⟩ := g0
  by_cases hm : m = 0
  · subst hm
    simp only [cE] at h
    split at h
    · cases h
    · rename_i hc
      have hc : isSetD iter = false ∧ blkB s scope = true := by simpa using hc
      split at h
      · rename_i ig ii ielt ic h1 h2 h3 h4
        cases h
        have hT : ifs.length ≤ 1 ∧ STc { s with sc := scope, blk := true } ifs ic := by
          match ifs, h4 with
          | [], h4 => cases h4; exact ⟨by simp, .inl ⟨rfl, rfl⟩⟩
          | [c], h4 =>
            obtain ⟨it, h5, rfl⟩ := Option.map_eq_some_iff.mp h4
            exact ⟨by simp, .inr ⟨c, it, rfl, rfl, ih.T _ _ _ h5⟩⟩
          | _ :: _ :: _, h4 => cases h4
        exact ⟨tg, iter, ifs, ig, ii, ielt, ic, rfl, hc.1, hc.2, hT.1, (ih.G _ _ _ h1).2, ih.I _ _ _ _ h2, ih.E _ _ _ h3, hT.2, rfl⟩
      · cases h
  · simp [cE, hm] at h
theorem cE_noSet {el : Expr} {gens : List Comprehension} {scope : Scope} {ie : IE} (h : cE k s (.SetComp el gens scope pos) = some ie) : False := by
  cases k <;> simp [cE] at h
theorem cE_noDict {ke ve : Expr} {gens : List Comprehension} {scope : Scope} {ie : IE} (h : cE k s (.DictComp ke ve gens scope pos) = some ie) : False := by
  cases k <;> simp [cE] at h
theorem stepSet {x : Str} {ie : IE} (hl : locB s x = true) (hi : ixOf x s.N 0 = some i) (he : cE k s e = some ie) : SS s (.Assign [.Name x p] e pos) (.set i ie) := by
  intro hb C n X F hh g ρ ρ' fl E ev q
  cases hc : isComp e with
  | false => exact r_set hb hl hi ((all k).E s e ie he) (.inl hc) hh g ev q
  | true =>
    cases e with
    | ListComp elt gens scope p2 =>
      obtain ⟨b, hs, hlx⟩ := comp_swap (pos := p2) (x := x) (p := p) (sc := scope) (elt := elt) (gens := gens) (spos := pos) (env := X.env)
      cases b with
      | false => exact r_set hb hl hi ((all k).E s _ ie he) (.inr hs) hh g ev q
      | true =>
        obtain ⟨tg, iter, ifs, ig, ii, ielt, ic, rfl, h1, h2, h3, h4, h5, h6, h7, rfl⟩ := cE_lc he
        exact r_setLc h1 h2 h3 h4 h5 h6 h7 hi (hlx rfl) hs hh g ev q
    | SetComp _ _ _ _ => exact (cE_noSet he).elim
    | DictComp _ _ _ _ _ => exact (cE_noDict he).elim
    | _ => cases hc
theorem stepS (ih : AllS k) (s : SC) (st : Stmt) (is : IS) (h : cS (k + 1) s st = some is) : SS s st is := by
  have iE := (all k).E
  simp only [cS] at h
  split at h
  · cases h
    intro hb C n X F hh g ρ ρ' fl E ev q
    simp only [evS] at ev; cases ev
    exact ds_pass q
  · cases h
    intro hb C n X F hh g ρ ρ' fl E ev q
    simp only [evS] at ev; cases ev
    exact ds_break q
  · cases h
    intro hb C n X F hh g ρ ρ' fl E ev q
    simp only [evS] at ev; cases ev
    exact ds_continue q
  · cases h
    intro hb C n X F hh g ρ ρ' fl E ev q
    simp only [evS] at ev; cases ev
    exact ds_retN q
  · rename_i e pos
    obtain ⟨ie, h1, rfl⟩ := Option.map_eq_some_iff.mp h
    intro hb C n X F hh g ρ ρ' fl E ev q
    simp only [evS] at ev
    obtain ⟨d, ρ1, e1, ev⟩ := bind_ok ev
    cases ev
    exact ds_ret (iE s e ie h1 hh g e1 q)
  · rename_i e pos
    split at h
    · cases h
    · rename_i hc
      have hc : isComp e = false := by simpa using hc
      obtain ⟨ie, h1, rfl⟩ := Option.map_eq_some_iff.mp h
      intro hb C n X F hh g ρ ρ' fl E ev q
      simp only [evS] at ev
      obtain ⟨d, ρ1, e1, ev⟩ := bind_ok ev
      cases ev
      exact ds_expr (swaps_no hc) (iE s e ie h1 hh g e1 q)
  · rename_i x p e pos
    split at h
    · rename_i hl
      split at h
      · rename_i i ie hi he
        cases h
        exact stepSet hl hi he
      · cases h
    · cases h
  · rename_i x np f p e pos
    split at h
    · cases h
    · rename_i hc
      have hc : isComp e = false := by simpa using hc
      split at h
      · rename_i c i ie hA hcl hsl he
        cases h
        intro hb C n X F hh g ρ ρ' fl E ev q
        exact r_att hc hA hsl (iE s e ie he) hh g ev q
      · cases h
  · rename_i t e pos _ _
    split at h
    · cases h
    · rename_i hc
      have hc : isComp e = false ∧ swpOk s.sc t e = true := by simpa using hc
      split at h
      · rename_i ig ie hg he
        cases h
        intro hb C n X F hh g ρ ρ' fl E ev q
        exact r_asg hb hc.1 hc.2 hg he hh g ev q
      · cases h
  · rename_i x p op e pos
    split at h
    · rename_i hc
      rw [Bool.and_eq_true, Bool.and_eq_true] at hc
      split at h
      · rename_i i ie hi he
        cases h
        intro hb C n X F hh g ρ ρ' fl E ev q
        exact r_aug hc.2 hc.1.1 hi (iE s e ie he) hh g ev q
      · cases h
    · cases h
  · rename_i c A B pos
    split at h
    · rename_i ic ia ib h1 h2 h3
      cases h
      intro hb C n X F hh g ρ ρ' fl E ev q
      simp only [evS] at ev
      obtain ⟨kb, ρ1, e1, ev⟩ := bind_ok ev
      refine ds_if ((all k).T s c ic h1 hh g e1 ?_)
      cases kb with
      | true =>
        rw [if_pos rfl] at ev ⊢
        exact ih.B s A ia h2 hb hh g ev q
      | false =>
        rw [if_neg (by decide)] at ev ⊢
        exact ih.B s B ib h3 hb hh g ev q
    · cases h
  · rename_i t it body pos
    split at h
    · cases h
    · rename_i hset
      have hset : isSetD it = false := by simpa using hset
      split at h
      · rename_i ig ii ib h1 h2 h3
        cases h
        intro hb C n X F hh g ρ ρ' fl E ev q
        simp only [evS] at ev
        obtain ⟨xs, ρ1, e1, ev⟩ := bind_ok ev
        exact ds_for (folded_no hset) (hh.pass hb) g.calm ((all k).I s _ it ii h2 hh g id e1 fun hs => dfor_ok hb hh g ((all k).G s t ig h1).1 (ih.B s body ib h3) ev q)
      · cases h
  · split at h
    · cases h
    · split at h
      · obtain ⟨ie, h1, rfl⟩ := Option.map_eq_some_iff.mp h
        intro hb C n X F hh g ρ ρ' fl E ev q
        simp only [evS] at ev
        obtain ⟨ds, ρ1, e1, ev⟩ := bind_ok ev
        unfold raiO at ev
        split at ev <;> cases ev
      · cases h
  · rename_i c body pos
    split at h
    · rename_i ic ib h1 h2
      cases h
      intro hb C n X F hh g ρ ρ' fl E ev q
      simp only [evS] at ev
      exact whl_ok hb ((all k).T s c ic h1) (ih.B s body ib h2) hh g ev q
    · cases h
  · cases h
theorem stepB (ih : AllS k) (s : SC) (sts : List Stmt) (is : List IS) (h : cB (k + 1) s sts = some is) : SB s sts is := by
  intro hb C n X F hh g ρ ρ' fl E ev q
  cases sts with
  | nil =>
    simp only [cB] at h
    cases h
    simp only [evB] at ev
    cases ev
    exact ds_nil q
  | cons st r =>
    simp only [cB] at h
    obtain ⟨ib, h1, rfl⟩ := Option.map_eq_some_iff.mp h
    simp only [evB] at ev
    cases hs : cS k s st with
    | none =>
      rw [hs] at ev
      simp only [Option.getD, evS] at ev
      rcases then_ok ev with ⟨ρ1, e1, _⟩ | ⟨e1, _⟩ <;> cases e1
    | some is =>
      rw [hs] at ev
      have hS := ih.S s st is hs
      rcases then_ok ev with ⟨ρ1, e1, e2⟩ | ⟨e1, e2⟩
      · exact ds_cons (hS hb hh g e1 (ih.B s r ib h1 hb hh g e2 q))
      · refine ds_cons (hS hb hh g e1 ?_)
        cases fl with
        | nx => exact (e2 rfl).elim
        | ret d => exact q
        | bk => exact q
        | ct => exact q
theorem allS : ∀ k, AllS k
  | 0 => ⟨fun s st is h => by simp [cS] at h, fun s sts is h => by simp [cB] at h⟩
  | k + 1 => ⟨stepS (allS k), stepB (allS k)⟩
end
end Ev

end
section -- Ei
set_option maxRecDepth 100000
set_option maxHeartbeats 4000000
/-! Arguments bound. -/
namespace Ev
open PySem PySem.Spec L2 Sx Dx
open PyProof.Rows hiding St
/-- nothing but plain parameters -/
def plainP (p : Arguments) (ps : List Str) : Bool := p.posonlyargs.isEmpty && p.kwonlyargs.isEmpty && p.vararg.isNone && p.kwarg.isNone && decide (p.args.map (fun a => a.arg) = ps)
theorem look_zip {α : Type} {x : Str} : ∀ {ps : List Str} {us : List α}, ((ps.zip us).lookup x).isNone = !((ps.take us.length).contains x)
  | [], us => by cases us <;> simp
  | p :: ps, [] => by simp
  | p :: ps, u :: us => by
    rw [List.zip_cons_cons, List.lookup_cons, List.length_cons, List.take_succ_cons, List.contains_cons]
    cases h : x == p with
    | true => simp
    | false => simpa using look_zip
theorem fm_congr {α β : Type} {f g : α → Option β} : ∀ {l : List α}, (∀ x, x ∈ l → f x = g x) → l.filterMap f = l.filterMap g
  | [], _ => rfl
  | a :: l, h => by
    rw [List.filterMap_cons, List.filterMap_cons, h a (List.mem_cons_self ..), fm_congr fun x hx => h x (List.mem_cons_of_mem _ hx)]
theorem zip_back {α : Type} : ∀ {ps : List Str} {vs : List α}, ps.Nodup → ps.length = vs.length → (ps.filterMap fun n => ((ps.zip vs).lookup n).map fun x => (n, x)) = ps.zip vs
  | [], [], _, _ => rfl
  | p :: ps, v :: vs, nd, hl => by
    obtain ⟨n1, n2⟩ := List.nodup_cons.mp nd
    rw [List.filterMap_cons]
    have e : ((p :: ps).zip (v :: vs)).lookup p = some v := by simp [List.lookup_cons]
    rw [e]
    show (p, v) :: _ = (p, v) :: ps.zip vs
    refine congrArg _ ?_
    rw [← zip_back (ps := ps) (vs := vs) n2 (by simpa using hl)]
    rw [zip_back (ps := ps) (vs := vs) n2 (by simpa using hl)]
    rw [show (List.filterMap (fun n => (((p :: ps).zip (v :: vs)).lookup n).map fun x => (n, x)) ps) = List.filterMap (fun n => ((ps.zip vs).lookup n).map fun x => (n, x)) ps from ?_]
    · exact zip_back n2 (by simpa using hl)
    · refine fm_congr fun x hx => ?_
      have hne : (x == p) = false := by
        rw [beq_eq_false_iff_ne]
        exact fun e => n1 (e ▸ hx)
      rw [List.zip_cons_cons, List.lookup_cons, hne]
/-- the loop over what has a default -/
def dflGo {α : Type} : List (Str × α) → List (Str × α) → List (Str × α)
  | [], sl => sl
  | (n, d) :: r, sl => dflGo r (if (sl.lookup n).isNone = true then sl ++ [(n, d)] else sl)
theorem dflGo_app {α : Type} : ∀ {l1 l2 sl : List (Str × α)}, dflGo (l1 ++ l2) sl = dflGo l2 (dflGo l1 sl)
  | [], _, _ => rfl
  | (n, d) :: r, l2, sl => by
    show dflGo (r ++ l2) _ = dflGo l2 (dflGo r _)
    exact dflGo_app
theorem dflGo_all {α : Type} : ∀ {xs : List Str} {ds : List α} {sl : List (Str × α)}, (∀ x, x ∈ xs → (sl.lookup x).isNone = false) → dflGo (xs.zip ds) sl = sl
  | [], _, _, _ => rfl
  | _ :: _, [], _, _ => rfl
  | x :: xs, d :: ds, sl, h => by
    rw [List.zip_cons_cons]
    unfold dflGo
    rw [h x (List.mem_cons_self ..)]
    exact dflGo_all fun y hy => h y (List.mem_cons_of_mem _ hy)
theorem look_app {α : Type} {x : Str} {l1 l2 : List (Str × α)} (h : (l1.lookup x).isNone = true) : ((l1 ++ l2).lookup x) = l2.lookup x := by
  rw [List.lookup_append]
  rw [Option.isNone_iff_eq_none] at h
  rw [h]; rfl
theorem dflGo_none {α : Type} : ∀ {xs : List Str} {ds : List α} {sl : List (Str × α)}, xs.Nodup → (∀ x, x ∈ xs → (sl.lookup x).isNone = true) → dflGo (xs.zip ds) sl = sl ++ xs.zip ds
  | [], _, _, _, _ => by simp [dflGo]
  | _ :: _, [], _, _, _ => by simp [dflGo]
  | x :: xs, d :: ds, sl, nd, h => by
    obtain ⟨n1, n2⟩ := List.nodup_cons.mp nd
    rw [List.zip_cons_cons]
    unfold dflGo
    rw [if_pos (h x (List.mem_cons_self ..)), dflGo_none n2]
    · simp
    · intro y hy
      rw [look_app (h y (List.mem_cons_of_mem _ hy)), List.lookup_cons]
      have hne : (y == x) = false := by
        rw [beq_eq_false_iff_ne]
        exact fun e => n1 (e ▸ hy)
      rw [hne]; rfl
theorem zip_take_eq {α : Type} : ∀ {ps : List Str} {us : List α}, (ps.take us.length).zip us = ps.zip us
  | [], us => by simp
  | p :: ps, [] => by simp
  | p :: ps, u :: us => by simp [zip_take_eq]
theorem dflGo_eq {α : Type} {ps : List Str} {us its : List α} {j : Nat} (nd : ps.Nodup) (hi : its.length ≤ ps.length) (hl : us.length + (its.length - j) = ps.length) (hj : j ≤ its.length) :
    dflGo ((ps.drop (ps.length - its.length)).zip its) (ps.zip us) = ps.zip (us ++ its.drop j) := by
  have hm : us.length = (ps.length - its.length) + j := by omega
  have e1 : (ps.drop (ps.length - its.length)).zip its = ((ps.drop (ps.length - its.length)).take j).zip (its.take j) ++ (ps.drop us.length).zip (its.drop j) := by
    rw [hm, ← List.drop_drop, ← List.zip_append (by simp; omega), List.take_append_drop, List.take_append_drop]
  have key : ∀ x, ((ps.zip us).lookup x).isNone = !((ps.take us.length).contains x) := fun x => look_zip
  have sp : ps.take us.length = ps.take (ps.length - its.length) ++ (ps.drop (ps.length - its.length)).take j := by
    rw [hm, List.take_add]
  have nd2 : (ps.take us.length ++ ps.drop us.length).Nodup := by rw [List.take_append_drop]; exact nd
  obtain ⟨_, nd3, dj⟩ := List.nodup_append.mp nd2
  have h1 : dflGo (((ps.drop (ps.length - its.length)).take j).zip (its.take j)) (ps.zip us) = ps.zip us := by
    refine dflGo_all fun x hx => ?_
    rw [key]
    have : (ps.take us.length).contains x = true := by
      rw [sp]
      simp only [List.contains_eq_mem, List.mem_append, decide_eq_true_eq]
      exact .inr hx
    rw [this]; rfl
  have h2 : ∀ x, x ∈ ps.drop us.length → ((ps.zip us).lookup x).isNone = true := fun x hx => by
    rw [key]
    have : (ps.take us.length).contains x = false := by
      rw [List.contains_eq_mem, decide_eq_false_iff_not]
      exact fun h => dj x h x hx rfl
    rw [this]; rfl
  rw [e1, dflGo_app, h1, dflGo_none nd3 h2]
  conv => rhs; rw [← List.take_append_drop us.length ps]
  rw [List.zip_append (by simp; omega), zip_take_eq]
end Ev

end
section -- Ej
set_option maxRecDepth 100000
set_option maxHeartbeats 4000000
namespace Ev
open PySem PySem.Spec L2 Sx Dx
open PyProof.Rows hiding St
theorem sem_pb {α β : Type} {a : α} {f : α → Sem β} : (pure a >>= f) = f a := rfl
theorem forIn_sem {α : Type} : ∀ {l : List (Str × α)} {sl : List (Str × α)}, (forIn l sl fun (x : Str × α) (__s : List (Str × α)) => (if (List.lookup x.fst __s).isNone = true then (pure (ForInStep.yield (__s ++ [(x.fst, x.snd)])) : Sem _) else pure (ForInStep.yield __s))) = pure (dflGo l sl)
  | [], sl => by simp [dflGo]
  | (n, d) :: r, sl => by
    rw [List.forIn_cons]
    have e : dflGo ((n, d) :: r) sl = dflGo r (if (List.lookup n sl).isNone = true then sl ++ [(n, d)] else sl) := rfl
    rw [e]
    cases hb : (List.lookup n sl).isNone with
    | true =>
      simp only [hb, if_true, sem_pb]
      exact forIn_sem
    | false =>
      simp only [hb, Bool.false_eq_true, if_false, sem_pb]
      exact forIn_sem
theorem bind_dfl {x qual : Str} {params : Arguments} {body : List Stmt} {scope : Scope} {kV doc pm cdv ct : Value} {an : Option Addr} {ps : List Str} {us its : List Value} {j : Nat} (dV : Value) (hp : plainP params ps = true) (nd : ps.Nodup) (hi : its.length ≤ ps.length) (hl : us.length + (its.length - j) = ps.length) (hj : j ≤ its.length) :
    ∃ k, bindArgs (PySem.W.fnOf x qual params body scope dV kV doc pm an cdv ct) ⟨us, []⟩ = seqItems? dV >>= k ∧ ∀ o : Option (Array Value), (o.getD #[]).toList = its → k o = pure (ps.zip (us ++ its.drop j)) := by
  obtain ⟨po, ar, va, ko, kd, kw, df⟩ := params
  unfold plainP at hp
  simp only [Bool.and_eq_true, List.isEmpty_iff, Option.isNone_iff_eq_none, decide_eq_true_eq] at hp
  obtain ⟨⟨⟨⟨rfl, rfl⟩, rfl⟩, rfl⟩, rfl⟩ := hp
  refine ⟨_, rfl, fun o ho => ?_⟩
  simp only [ho]
  simp only [List.map_nil, List.nil_append, Option.getD, Option.isNone_none, Bool.and_true, decide_eq_true_eq, List.length_zip]
  generalize List.map (fun x => x.arg) ar = ps at *
  have e0 : its.length - ps.length = 0 := by omega
  simp only [e0, List.drop_zero]
  rw [if_neg (by omega)]
  have mis : (List.filter (fun n => (List.lookup n (ps.zip us)).isNone) (List.take (ps.length - its.length) ps)) = [] := by
    rw [List.filter_eq_nil_iff]
    intro a ha
    rw [look_zip]
    have h1 : ps.take us.length = ps.take (ps.length - its.length) ++ (ps.drop (ps.length - its.length)).take j := by
      rw [show us.length = (ps.length - its.length) + j by omega, List.take_add]
    rw [h1]
    simp [ha]
  rw [mis]
  simp only [List.isEmpty_nil, Bool.not_true, Bool.false_eq_true, if_false, forIn_sem, sem_pb, dflGo_eq nd hi hl hj, List.forIn_nil, List.append_nil]
  rw [zip_back nd (by simp; omega)]
theorem binds_gen {K : PySem.W.Frag} {x qual : Str} {params : Arguments} {body : List Stmt} {scope : Scope} {dvs : List V} {kws : List (Str × V)} {f : Addr} {fd : FuncData} {ps : List Str} (F : FunD K x qual params body scope dvs kws f fd) (hp : plainP params ps = true) (nd : ps.Nodup) (hi : dvs.length ≤ ps.length) (j : Nat) (hj : j ≤ dvs.length) :
    ∃ ds, Binds K fd ps ds ∧ Vals (dvs.drop j) ds := by
  by_cases hd : dvs = []
  · subst hd
    refine ⟨[], FunD.bindsN F fun kV doc pm an cdv ct us hl => ?_, by rw [List.drop_nil]; exact .nil⟩
    obtain ⟨k, h1, h2⟩ := bind_dfl (x := x) (qual := qual) (body := body) (scope := scope) (kV := kV) (doc := doc) (pm := pm) (cdv := cdv) (ct := ct) (an := an) (us := us) (its := []) (j := 0) .none hp nd (by simp) (by simpa using hl) (by simp)
    rw [h1]
    show k none = _
    rw [h2 none rfl]
    simp
  · obtain ⟨ds, r, b⟩ := FunD.binds1 F (ps := ps) (ps.length - (dvs.length - j)) j hd (by omega) (fun T kV doc pm an cdv ct us its h1 h2 => by
      obtain ⟨k, h3, h4⟩ := bind_dfl (x := x) (qual := qual) (body := body) (scope := scope) (kV := kV) (doc := doc) (pm := pm) (cdv := cdv) (ct := ct) (an := an) (us := us) (its := its) (j := j) (.ref T) hp nd (by omega) (by omega) (by omega)
      exact ⟨k, h3, h4 _ (by simp)⟩)
    exact ⟨ds, b, r⟩
end Ev

end
section -- Eq
set_option maxRecDepth 100000
set_option maxHeartbeats 4000000
namespace Ev
open PySem PySem.Spec L2 Sx Dx
open PyProof.Rows hiding St
theorem kb1 {K : PySem.W.Frag} {fd : FuncData} {ps : List Str} {kw : Str} (hp : ps.length = 2) (h : ∀ a b : Value, bindArgs fd ⟨[a], [(kw, b)]⟩ = pure (ps.zip [a, b])) : KBinds K fd ps [kw] kg1 kg1 where
  to := fun s us ws X l => by
    match us, ws, l with
    | [a], [b], _ => exact .of_eq (h a b)
    | [], _, l => rw [hp] at l; cases l
    | [_], [], l => rw [hp] at l; cases l
    | [_], _ :: _ :: _, l => rw [hp] at l; cases l
    | _ :: _ :: _, _, l => rw [hp] at l; cases l
  rel := fun r r2 => by
    cases r with
    | nil => exact .nil
    | cons r1 rt =>
      cases rt with
      | nil =>
        cases r2 with
        | nil => exact .nil
        | cons r3 rt2 =>
          cases rt2 with
          | nil => exact .cons r1 (.cons r3 .nil)
          | cons _ _ => exact .nil
      | cons _ _ => exact .nil
theorem bind_kw {x qual : Str} {params : Arguments} {body : List Stmt} {scope : Scope} {kV doc pm cdv ct : Value} {an : Option Addr} {s kw : Str} (hp : plainP params [s, kw] = true) (hne : s ≠ kw) (a b : Value) :
    bindArgs (PySem.W.fnOf x qual params body scope .none kV doc pm an cdv ct) ⟨[a], [(kw, b)]⟩ = pure [(s, a), (kw, b)] := by
  obtain ⟨po, ar, va, ko, kd, kwa, df⟩ := params
  unfold plainP at hp
  simp only [Bool.and_eq_true, List.isEmpty_iff, Option.isNone_iff_eq_none, decide_eq_true_eq] at hp
  obtain ⟨⟨⟨⟨rfl, rfl⟩, rfl⟩, rfl⟩, hp⟩ := hp
  match ar, hp with
  | [⟨s1, an1, p1⟩, ⟨s2, an2, p2⟩], hp =>
    have e1 : s1 = s := (List.cons.inj hp).1
    have e2 : s2 = kw := (List.cons.inj (List.cons.inj hp).2).1
    clear hp
    subst e1
    subst e2
    have h1 : (s2 == s1) = false := by rw [beq_eq_false_iff_ne]; exact fun e => hne e.symm
    have h2 : (s1 == s2) = false := by rw [beq_eq_false_iff_ne]; exact hne
    unfold bindArgs
    simp only [List.map_cons, List.map_nil, List.nil_append, List.forIn_cons, List.forIn_nil, List.contains_cons, h1, h2, beq_self_eq_true, List.contains_nil, Bool.or_true, Bool.or_false, Bool.false_or, if_true, List.zip_cons_cons, List.lookup_cons, List.lookup_nil, Option.isSome_none, Bool.false_eq_true, if_false, sem_pb, List.cons_append]
    simp only [List.zip_nil_right, List.lookup_nil, Option.isSome_none, Bool.false_eq_true, if_false, sem_pb, List.nil_append, show (seqItems? Value.none : Sem _) = pure none from rfl, Option.getD_none, List.length_cons, List.length_nil, Nat.reduceAdd, gt_iff_lt, Nat.reduceLT, decide_false, Bool.false_and, List.drop_nil, Nat.sub_zero, List.take, List.filter, List.lookup_cons, h1, h2, beq_self_eq_true, Option.isNone_some, List.isEmpty_nil, Bool.not_true, List.drop, List.zip_nil_left, List.forIn_nil, List.append_nil, List.filterMap_cons, List.filterMap_nil, Option.map_some]
theorem kbinds_gen {K : PySem.W.Frag} {x qual : Str} {params : Arguments} {body : List Stmt} {scope : Scope} {kws : List (Str × V)} {f : Addr} {fd : FuncData} {s kw : Str} (F : FunD K x qual params body scope [] kws f fd) (hp : plainP params [s, kw] = true) (hne : s ≠ kw) : KBinds K fd [s, kw] [kw] kg1 kg1 := by
  obtain ⟨oc, od, dV, kV, doc, pm, an, cdv, ct, osl, rfl, lk, hcd, hD, hK⟩ := F.ex
  rcases hD with ⟨_, rfl⟩ | ⟨e, _⟩
  · exact kb1 rfl fun a b => bind_kw hp hne a b
  · exact absurd rfl e
end Ev

end
section -- Ek
set_option maxRecDepth 100000
set_option maxHeartbeats 4000000
/-! A module: its defs, what is asked of it. -/
namespace Ev
open PySem PySem.Spec L2 Sx Dx He
open PyProof.Rows hiding St
structure DefY where
  key : FK
  name : Str
  qual : Str
  params : Arguments
  body : List Stmt
  scope : Scope
  N : List Str
  ps : List Str
  mu : List Bool
  dfl : List D
structure MD where
  defs : List DefY
  tab : List (Str × GK)
  A : List (Str × Bool)
  K : List (Str × Str)
def clsOf : FK → Option Str
  | .m c _ => some c | .p c _ => some c | .i c => some c | .k c _ => some c | .f _ => none
def MD.find (m : MD) (f : FK) : Option DefY := m.defs.find? fun d => decide (d.key = f)
def MD.G (m : MD) (x : Str) : Option GK := match m.find (.f x) with
  | some d => some (.fn d.mu d.dfl)
  | none => match m.find (.i x) with
    | some d => some (.cls (d.ps.length - 1) d.dfl)
    | none => m.tab.lookup x
def MD.Af (m : MD) (f : Str) : Option Bool := m.A.lookup f
def MD.P (m : MD) (x : Str) : Option Str := m.K.lookup x
def MD.sc (m : MD) (d : DefY) : SC := ⟨d.N, d.scope, m.G, m.Af, m.P, clsOf d.key, false⟩
def MD.fnOf (m : MD) (d : DefY) : Option Fn := (cB 300 (m.sc d) d.body).map fun b => ⟨d.ps.length, d.N.length, d.mu, b⟩
def MD.T (m : MD) : Tab := fun f => (m.find f).bind m.fnOf
def MD.cs (m : MD) : List Str := m.defs.filterMap fun d => match d.key with
  | .i c => some c
  | _ => none
theorem find_of {m : MD} {f : FK} {d : DefY} (h : m.find f = some d) : d ∈ m.defs ∧ d.key = f := by
  unfold MD.find at h
  have h2 := List.find?_some (p := fun d : DefY => decide (d.key = f)) h
  exact ⟨List.mem_of_find?_eq_some h, of_decide_eq_true h2⟩
theorem T_of {m : MD} {f : FK} {fn : Fn} (h : m.T f = some fn) : ∃ d, m.find f = some d ∧ ∃ b, cB 300 (m.sc d) d.body = some b ∧ fn = ⟨d.ps.length, d.N.length, d.mu, b⟩ := by
  unfold MD.T at h
  cases hd : m.find f with
  | none => rw [hd] at h; cases h
  | some d =>
    rw [hd] at h
    obtain ⟨b, h1, h2⟩ := Option.map_eq_some_iff.mp (show (cB 300 (m.sc d) d.body).map _ = some fn from h)
    exact ⟨d, rfl, b, h1, h2.symm⟩
/-! ### where they stand -/
def pGet (K : PySem.W.Frag) (a : Addr) : Addr := match PySem.W.recIn K a "property" with
  | some (.ref g :: _) => g
  | _ => 0
def adK (K : PySem.W.Frag) : FK → Addr
  | .f x => ga K x
  | .m c x => ma K (ga K c) x
  | .i c => ma K (ga K c) "__init__"
  | .p c x => pGet K (ma K (ga K c) x)
  | .k _ _ => 0
/-- the i-th default, if it is an object -/
def dAd (K : PySem.W.Frag) (f : FK) (i : Nat) : Addr := match K.lookup (adK K f) with
  | some ⟨_, _, .func fd, _⟩ => (match fd.defaults with
    | .ref T => (match K.lookup T with
      | some ⟨_, _, .seq its _, _⟩ => (match its.toList[i]? with
        | some (.ref a) => a
        | _ => 0)
      | _ => 0)
    | _ => 0)
  | _ => 0
def tupE (K : PySem.W.Frag) (a : Addr) : Bool := match K.lookup a with
  | some ⟨.type c, _, .seq its _, _⟩ => decide (c = "tuple") && (decide (its.size ≤ sizeLine) && relAll [] its.toList)
  | _ => false
theorem tupE_ok {K : PySem.W.Frag} {a : Addr} (h : tupE K a = true) (H : Hp) : SqT K H a [] := by
  unfold tupE at h
  cases q : K.lookup a with
  | none =>
    rw [q] at h
    cases h
  | some o =>
    obtain ⟨oc, od, dt, osl⟩ := o
    rw [q] at h
    cases oc with
    | type c =>
      cases dt with
      | seq its n =>
        obtain ⟨h1, h2⟩ := ba (show (decide (c = "tuple") && (decide (its.size ≤ sizeLine) && relAll [] its.toList)) = true from h)
        obtain ⟨h3, h4⟩ := ba h2
        exact .inr ⟨_, its, n, q, congrArg Value.type (of_decide_eq_true h1), rfl, of_decide_eq_true h3, relAll_ok h4⟩
      | _ => cases h
    | _ => cases od <;> cases dt <;> cases h
def dV (K : PySem.W.Frag) (f : FK) (i : Nat) : D → V
  | .int i => .int i
  | .bl b => .bl b
  | .str x => .str x
  | .tup _ => .ref (dAd K f i)
  | _ => .non
def dvOk : D → Bool
  | .int _ => true | .bl _ => true | .non => true | .str _ => true
  | .tup ds => ds.isEmpty
  | _ => false
def dVs (K : PySem.W.Frag) (f : FK) : Nat → List D → List V
  | _, [] => []
  | i, d :: ds => dV K f i d :: dVs K f (i + 1) ds
def dvB (K : PySem.W.Frag) (f : FK) : Nat → List D → Bool
  | _, [] => true
  | i, d :: ds => dvOk d && ((match d with
    | .tup _ => tupE K (dAd K f i)
    | _ => true) && dvB K f (i + 1) ds)
theorem dV_rep {K : PySem.W.Frag} {w : World} {cl : Nm} {f : FK} : ∀ {ds : List D} {i : Nat}, dvB K f i ds = true → ∀ (O : Addr → Prop) (H : Hp), RepL K w cl O H (dVs K f i ds) ds
  | [], _, _, _, _ => .nil
  | d :: ds, i, h, O, H => by
    unfold dvB at h
    obtain ⟨h1, h2⟩ := ba h
    obtain ⟨h2, h3⟩ := ba h2
    refine .cons ?_ (dV_rep h3 O H)
    cases d with
    | int i => exact .int i
    | bl b => exact .bl b
    | non => exact .non
    | str x => exact .str x
    | tup xs =>
      cases xs with
      | nil => exact .tupK (tupE_ok h2) .nil
      | cons _ _ => cases h1
    | _ => cases h1
theorem dVs_len {K : PySem.W.Frag} {f : FK} : ∀ {ds : List D} {i : Nat}, (dVs K f i ds).length = ds.length
  | [], _ => rfl
  | d :: ds, i => by simp [dVs, dVs_len]
def DefY.dv (K : PySem.W.Frag) (d : DefY) : List V := dVs K d.key 0 d.dfl
def DefY.val (d : DefY) : FnW := some (d.name, d.qual, d.params, .stmts d.body, d.scope, mainGlobals, [], builtinsNs)
def DefY.obs (K : PySem.W.Frag) (d : DefY) : FnW := match K.lookup (adK K d.key) with
  | some ⟨_, _, .func fd, _⟩ => some (fd.name, fd.qualname, fd.params, fd.body, fd.scope, fd.globals, fd.closure, fd.builtins)
  | _ => none
def DefY.ok (K : PySem.W.Frag) (d : DefY) : Bool := PySem.W.keepIn K (.ref (adK K d.key)) && (match K.lookup (adK K d.key) with
  | some ⟨_, _, .func fd, _⟩ => PySem.W.codeIn K fd.code d.qual && (dflB K fd.defaults (d.dv K) && (kwdB K fd.kwdefaults [] && dvB K d.key 0 d.dfl))
  | _ => false)
abbrev FnY (K : PySem.W.Frag) (d : DefY) (fd : FuncData) : Prop := FunD K d.name d.qual d.params d.body d.scope (d.dv K) [] (adK K d.key) fd
theorem DefY.funD {K : PySem.W.Frag} {d : DefY} (e : d.obs K = d.val) (c : d.ok K = true) : dvB K d.key 0 d.dfl = true ∧ ∃ fd, FnY K d fd := by
  obtain ⟨kp, c2⟩ := ba c
  unfold DefY.obs at e
  cases q : K.lookup (adK K d.key) with
  | none =>
    rw [q] at c2
    cases c2
  | some o =>
    obtain ⟨oc, od, dt, osl⟩ := o
    rw [q] at c2 e
    cases dt with
    | func fd =>
      obtain ⟨n1, n2, n3, n4, n5, n6, n7, n8, n9, n10, n11, n12, n13, n14, n15⟩ := fd
      have e2 : (some (n1, n2, n3, n4, n5, n6, n7, n15) : FnW) = some (d.name, d.qual, d.params, .stmts d.body, d.scope, mainGlobals, [], builtinsNs) := e
      simp only [Option.some.injEq, Prod.mk.injEq] at e2
      obtain ⟨h1, h2, h3, h4, h5, h6, h7, h8⟩ := e2
      subst h1 h2 h3 h4 h5 h6 h7 h8
      have c3 : (PySem.W.codeIn K n13 d.qual && (dflB K n8 (d.dv K) && (kwdB K n9 [] && dvB K d.key 0 d.dfl))) = true := c2
      obtain ⟨k1, k2⟩ := ba c3
      obtain ⟨k3, k4⟩ := ba k2
      obtain ⟨k4, k5⟩ := ba k4
      exact ⟨k5, _, ⟨oc, od, n8, n9, n10, n11, n12, n13, n14, osl, rfl, q, k1, dflB_ok k3, kwdB_ok k4⟩, kp⟩
    | _ => cases c2
/-! ### what is asked of K -/
def clsB (K : PySem.W.Frag) (x : Str) : Bool :=
  let C := ga K x
  (Fa.cls x).ok K && (decide (PySem.W.findIn K (.ref C) "__class__" = some (some (.builtin "object.__class__"))) && (decide (PySem.W.specialIn K (.builtin "object.__class__") "__get__" = some (some (.builtin "getset_descriptor.__get__"))) && (decide (PySem.W.takesIn K (.builtin "object.__class__") = some true)
  && (decide (PySem.W.mroIn K C (.type "object") = some true) && (decide (PySem.W.kitOne K (.ref C) (.ref C) = some true) && (PySem.W.selfFirst K C && (decide (PySem.W.findIn K (.ref C) "__ne__" = some (some (.builtin "object.__ne__")))
  && (decide (PySem.W.subIn K (.ref C) (.type "object") = some true) && (decide (PySem.W.findIn K (.ref C) (dunderR Operator.Mult.info.snd) = some none) && ((PySem.W.findIn K (.type "int") (dunder Operator.Mult.info.snd)).isSome
  && ((PySem.W.findIn K (.type "int") (dunderR Operator.Mult.info.snd)).isSome && decide (PySem.W.subIn K (.type "int") (.ref C) = some false))))))))))))
theorem clsB_ok {K : PySem.W.Frag} {x : Str} (h : clsB K x = true) : ClsF K (ga K x) := by
  unfold clsB at h
  simp only [Bool.and_eq_true, decide_eq_true_eq, Option.isSome_iff_exists] at h
  obtain ⟨h1, h2, h3, h4, h5, h6, h7, h8, h9, h10, h11, h12, h13⟩ := h
  exact ⟨⟨cls_ok h1, h2, h3, h4, h5, h6⟩, h7, h8, h9, h10, h11, h12, h13⟩
def propB (K : PySem.W.Frag) (c x : Str) : Bool :=
  let p := ma K (ga K c) x
  decide (PySem.W.findIn K (.ref (ga K c)) x = some (some (.ref p))) && (decide (PySem.W.specialIn K (.ref p) "__get__" = some (some (.builtin "property.__get__"))) && (decide (PySem.W.takesIn K (.ref p) = some true) && (match PySem.W.recIn K p "property" with
    | some (.ref _ :: _) => true
    | _ => false)))
theorem propB_ok {K : PySem.W.Frag} {c x : Str} (h : propB K c x = true) : PropOf K (ga K c) x (ma K (ga K c) x) (pGet K (ma K (ga K c) x)) := by
  unfold propB at h
  simp only [Bool.and_eq_true, decide_eq_true_eq] at h
  obtain ⟨h1, h2, h3, h4⟩ := h
  refine ⟨h1, h2, h3, ?_⟩
  split at h4
  · rename_i g r hr
    refine ⟨r, ?_⟩
    unfold pGet
    rw [hr]
  · cases h4
def keyB (K : PySem.W.Frag) (m : MD) (d : DefY) : Bool := match d.key with
  | .f x => (Fa.glo x).ok K
  | .m c x => m.cs.contains c && ((Fa.meth c x).ok K && (match m.K.lookup x with
    | some kw => (match d.ps with
      | [s, k] => decide (k = kw) && (decide (s ≠ kw) && d.dfl.isEmpty)
      | _ => false)
    | none => true))
  | .i c => (Fa.mkr c).ok K && (Fa.glo c).ok K
  | .p c x => m.cs.contains c && propB K c x
  | .k _ _ => true
def entB (K : PySem.W.Frag) : Str × GK → Bool
  | (x, .blt b) => (Fa.free x).ok K && (decide (x ≠ "__name__") && (match bid b with
    | some i => decide (bootBuiltins x = some (.builtin i))
    | none => false))
  | (x, .bty b T) => (Fa.free x).ok K && (decide (x ≠ "__name__") && (decide (bid b = none) && (decide (bty b = some T) && decide (bootBuiltins x = some (.type T)))))
  | (x, .int k) => (Fa.int x k).ok K
  | _ => false
def bltNames : List Str := ["len", "int", "abs", "range", "tuple", "list", "set", "sorted", "all", "divmod", "isinstance", "str", "repr", "bool", "min", "max", "zip", "enumerate", "sum"]
def MD.chk (m : MD) (K : PySem.W.Frag) : Bool :=
  m.defs.all (fun d => d.ok K && keyB K m d) && (m.tab.all (entB K) && (bltNames.all (fun x => (Fa.free x).ok K) && (m.cs.all (fun c => clsB K c
    && (m.cs.all (fun c' => decide (PySem.W.kitOne K (.ref (ga K c)) (.ref (ga K c')) = some (decide (c = c'))))
    && (tyNames.all (fun T => decide (PySem.W.kitOne K (.type T) (.ref (ga K c)) = some false) && decide (PySem.W.kitOne K (.ref (ga K c)) (.type T) = some false))
    && m.A.all (fun q => !q.2 || (Fa.noat c q.1).ok K)))))))
/-- what is asked of the text alone -/
def defB (d : DefY) : Bool := decide (d.scope.kind = .function) && (!d.scope.isCoroutine && (!d.scope.isGenerator && (decide d.N.Nodup && (decide (d.N.take d.ps.length = d.ps) && (d.ps.all (fun x => d.scope.names.lookup x == some .local || d.scope.names.lookup x == some .cell)
  && (d.scope.names.all (fun y => !(y.2 == .free)) && (plainP d.params d.ps && decide (d.dfl.length ≤ d.ps.length))))))))
structure DefOk (d : DefY) : Prop where
  sc : FnScope d.N d.ps d.scope
  pl : plainP d.params d.ps = true
  dl : d.dfl.length ≤ d.ps.length
theorem defB_ok {d : DefY} (h : defB d = true) : DefOk d := by
  unfold defB at h
  simp only [Bool.and_eq_true, decide_eq_true_eq, Bool.not_eq_true', List.all_eq_true, Bool.or_eq_true, beq_iff_eq] at h
  obtain ⟨h1, h2, h3, h4, h5, h6, h7, h8, h9⟩ := h
  refine ⟨⟨h1, h2, h3, h4, h5, h6, fun y hy e => ?_⟩, h8, h9⟩
  have := h7 y hy
  rw [e] at this
  cases this
end Ev

end
section -- El
set_option maxRecDepth 100000
set_option maxHeartbeats 4000000
/-! Every def of a module does what it is worth. -/
namespace Ev
open PySem PySem.Spec L2 Sx Dx He
open PyProof.Rows hiding St
section
variable {Pg : Program} {w : World} {K : PySem.W.Frag} {mg : Str → Option Value} {base : Heap}
theorem dfnD {x qual : Str} {params : Arguments} {body : List Stmt} {scope : Scope} {dvs : List V} {kws : List (Str × V)} {f : Addr} {fd : FuncData} {N ps : List Str} {k : Nat} {sp : DSp} {cl : Nm} (F : FunD K x qual params body scope dvs kws f fd) (S : FnScope N ps scope) (len : ∀ ds Q, sp ds Q → ds.length = ps.length)
    (hb : ∀ (cdv : Value) (A : Around) (outer : List Env) (s : Shared) (H : Hp) (E : XK) (ds : List D) (O : Addr → Prop) (ba : Option Addr) (Q' : D → List MV → Prop), Room k (A.deeper (envOfC qual scope s.heap.objs.size f cdv)) → sp ds Q' →
      DSs (cxOf CX0 Pg w K mg base N qual scope f cdv A outer s H E).nox (fx0 K w cl H O ba) body ⟨fun ρ => Q' .non (outs ds ρ), fun d ρ => Q' d (outs ds ρ), fun _ => False, fun _ => False⟩ (startE N ds)) : FnOk Pg w K mg base CX0 (k + 1) f fd ps (toSp K w cl sp) := by
  refine F.ok S (fun vs H Q E ⟨ds, O, ba, K', ho, r, h, _⟩ => by rw [r.len]; exact len ds _ h) (fun cdv A outer s H vs Q E hr ⟨ds, O, ba, K', ho, r, h, hk⟩ => ⟨_, PSs.nox (rss _), ?_⟩)
  refine rsx_mono (hb cdv A outer s H E ds O ba K' hr h _ _ (ok_start ho r)) (fun σ H' ⟨ρ, ok, q⟩ => ?_) (fun v H' ⟨σ, d, ρ, res, q⟩ => ?_) (fun σ H' ⟨ρ, _, q⟩ => q.elim) (fun σ H' ⟨ρ, _, q⟩ => q.elim)
  · obtain ⟨t, R⟩ := ret_of (ds := ds) (Res.rep ok .non)
    exact hk _ _ q _ _ _ R
  · obtain ⟨t, R⟩ := ret_of (ds := ds) res
    exact hk _ _ q _ _ _ R
/-- nothing is promised -/
theorem fn_none {k : Nat} {f : Addr} {fd : FuncData} {ps : List Str} {cl : Nm} {sp : DSp} (h : ∀ ds Q, ¬ sp ds Q) : FnOk Pg w K mg base CX0 k f fd ps (toSp K w cl sp) where
  len := fun vs H Q E ⟨ds, O, ba, K', ho, r, h1, _⟩ => (h _ _ h1).elim
  run := fun A outer s H args us vs Q E _ _ _ _ ⟨ds, O, ba, K', ho, r, h1, _⟩ => (h _ _ h1).elim
def MD.nm (m : MD) (K : PySem.W.Frag) : Nm := ⟨fun c => if m.cs.contains c = true then some (ga K c) else none, fun f => if (m.find (.f f)).isSome = true then some (ga K f) else none⟩
/-- what the run behind the top has left -/
structure Left (m : MD) (K : PySem.W.Frag) (mg : Str → Option Value) : Prop where
  ch : m.chk K = true
  fd : ∀ d, d ∈ m.defs → ∃ fd, FnY K d fd
  dv : ∀ d, d ∈ m.defs → dvB K d.key 0 d.dfl = true
  glo : ∀ x, (Fa.glo x).ok K = true → mg x = some (.ref (ga K x))
  free : ∀ x, (Fa.free x).ok K = true → mg x = none
  int : ∀ x i, (Fa.int x i).ok K = true → ∃ t, mg x = some (.int i t)
def AllFn (m : MD) (Pg : Program) (w : World) (K : PySem.W.Frag) (mg : Str → Option Value) (base : Heap) (n : Nat) : Prop :=
  ∀ f d, m.find f = some d → ∀ fd, FnY K d fd → FnOk Pg w K mg base CX0 (3 * n) (adK K f) fd d.ps (toSp K w (m.nm K) (dsp (run m.T n) f))
theorem mem_cs {m : MD} {c : Str} : m.cs.contains c = true ↔ ∃ d, d ∈ m.defs ∧ d.key = .i c := by
  unfold MD.cs
  rw [List.contains_iff_mem, List.mem_filterMap]
  constructor
  · rintro ⟨d, hd, e⟩
    refine ⟨d, hd, ?_⟩
    split at e
    · rename_i c' hc
      cases e
      exact hc
    · cases e
  · rintro ⟨d, hd, e⟩
    exact ⟨d, hd, by rw [e]⟩
theorem find_some {m : MD} {d : DefY} (h : d ∈ m.defs) : ∃ d', m.find d.key = some d' := by
  unfold MD.find
  cases e : m.defs.find? fun d' => decide (d'.key = d.key) with
  | some d' => exact ⟨d', rfl⟩
  | none =>
    rw [List.find?_eq_none] at e
    exact absurd (decide_eq_true rfl) (e d h)
theorem nm_c {m : MD} {c : Str} {a : Addr} (h : (m.nm K).c c = some a) : m.cs.contains c = true ∧ a = ga K c := by
  unfold MD.nm at h
  simp only [] at h
  split at h
  · rename_i hc; cases h; exact ⟨hc, rfl⟩
  · cases h
theorem run_ok {T : Tab} {n : Nat} {f : FK} {ds : List D} {d : D} {o : List MV} (h : run T n f ds = .ok d o) : ∃ fn k, T f = some fn ∧ n = k + 1 ∧ ds.length = fn.np ∧ fin ds (evB (run T k) fn.body (startN fn.ns ds)) = .ok d o := by
  cases n with
  | zero => cases h
  | succ k =>
    unfold run at h
    cases hf : T f with
    | none => rw [hf] at h; cases h
    | some fn =>
      rw [hf] at h
      simp only [] at h
      split at h
      · rename_i hl; exact ⟨fn, k, rfl, rfl, hl, h⟩
      · cases h
variable {m : MD}
/-- what chk says -/
theorem chk_def (L : Left m K mg) {d : DefY} (h : d ∈ m.defs) : keyB K m d = true := by
  have := L.ch
  unfold MD.chk at this
  exact (ba (List.all_eq_true.mp (ba this).1 d h)).2
theorem chk_tab (L : Left m K mg) {q : Str × GK} (h : q ∈ m.tab) : entB K q = true := by
  have := L.ch
  unfold MD.chk at this
  exact List.all_eq_true.mp (ba (ba this).2).1 q h
theorem chk_blt (L : Left m K mg) {x : Str} (h : x ∈ bltNames) : mg x = none := by
  have := L.ch
  unfold MD.chk at this
  exact L.free x (List.all_eq_true.mp (ba (ba (ba this).2).2).1 x h)
theorem chk_cls (L : Left m K mg) {c : Str} (h : m.cs.contains c = true) : clsB K c = true ∧ (∀ c', m.cs.contains c' = true → PySem.W.kitOne K (.ref (ga K c)) (.ref (ga K c')) = some (decide (c = c'))) ∧ (∀ T, T ∈ tyNames → PySem.W.kitOne K (.type T) (.ref (ga K c)) = some false ∧ PySem.W.kitOne K (.ref (ga K c)) (.type T) = some false) ∧
    (∀ q, q ∈ m.A → q.2 = true → (Fa.noat c q.1).ok K = true) := by
  have := L.ch
  unfold MD.chk at this
  have h1 := List.all_eq_true.mp (ba (ba (ba this).2).2).2 c (by simpa using h)
  simp only [Bool.and_eq_true, List.all_eq_true, decide_eq_true_eq] at h1
  obtain ⟨a1, a2, a3, a4⟩ := h1
  refine ⟨a1, fun c' hc' => a2 c' (by simpa using hc'), a3, fun q hq e => ?_⟩
  have := a4 q hq
  rw [e] at this
  simpa using this
theorem cls_glo (L : Left m K mg) {c : Str} (h : m.cs.contains c = true) : mg c = some (.ref (ga K c)) ∧ (m.nm K).c c = some (ga K c) := by
  obtain ⟨d, hd, e⟩ := mem_cs.mp h
  have hk := chk_def L hd
  unfold keyB at hk
  rw [e] at hk
  refine ⟨L.glo c (ba hk).2, ?_⟩
  unfold MD.nm
  simp only []
  rw [if_pos h]
theorem meth_of (L : Left m K mg) (sd : ∀ d, d ∈ m.defs → defB d = true) {n : Nat} (ih : AllFn m Pg w K mg base n) {c x : Str} {ds : List D} {d : D} {o : List MV} (h : run m.T n (.m c x) ds = .ok d o) :
    ∃ a ps, (m.nm K).c c = some a ∧ ClsF K a ∧ MethOk Pg w K mg base a x (3 * n) ps (toSp K w (m.nm K) (dsp (run m.T n) (.m c x))) := by
  obtain ⟨fn, k, hT, _, _, _⟩ := run_ok h
  obtain ⟨y, hy, _⟩ := T_of hT
  obtain ⟨hm, hk⟩ := find_of hy
  have hB := chk_def L hm
  unfold keyB at hB
  rw [hk] at hB
  obtain ⟨h1, h2⟩ := ba hB
  obtain ⟨g1, g2⟩ := cls_glo L h1
  obtain ⟨fd, F⟩ := L.fd y hm
  have D0 := defB_ok (sd y hm)
  obtain ⟨dsv, b1, b2⟩ := binds_gen F D0.pl (by
    have := D0.sc.nd
    have e := D0.sc.pre
    rw [← e]
    exact List.Nodup.sublist (List.take_sublist _ _) this) (by unfold DefY.dv; rw [dVs_len]; exact D0.dl) (y.dv K).length (Nat.le_refl _)
  rw [List.drop_length] at b2
  cases b2
  refine ⟨_, y.ps, g2, clsB_ok (chk_cls L h1).1, ⟨_, fd, ih _ _ hy fd F, ?_, b1⟩⟩
  exact meth_ok (ba h2).1
theorem look_memG {α : Type} {x : Str} {k : α} : ∀ {l : List (Str × α)}, l.lookup x = some k → (x, k) ∈ l
  | [], h => by simp at h
  | (y, j) :: r, h => by
    rw [List.lookup_cons] at h
    cases hx : x == y with
    | true =>
      rw [hx] at h
      cases h
      have : x = y := by simpa using hx
      subst this
      exact List.mem_cons_self ..
    | false =>
      rw [hx] at h
      exact List.mem_cons_of_mem _ (look_memG h)
theorem nd_ps {d : DefY} (D0 : DefOk d) : d.ps.Nodup := by
  have := D0.sc.nd
  rw [← D0.sc.pre]
  exact List.Nodup.sublist (List.take_sublist _ _) this
theorem binds0 {d : DefY} {fd : FuncData} (D0 : DefOk d) (F : FnY K d fd) : Binds K fd d.ps [] := by
  obtain ⟨dsv, b1, b2⟩ := binds_gen F D0.pl (nd_ps D0) (by unfold DefY.dv; rw [dVs_len]; exact D0.dl) (d.dv K).length (Nat.le_refl _)
  rw [List.drop_length] at b2
  cases b2
  exact b1
theorem prop_of (L : Left m K mg) (sd : ∀ d, d ∈ m.defs → defB d = true) {n : Nat} (ih : AllFn m Pg w K mg base n) {c x : Str} {ds : List D} {d : D} {o : List MV} (h : run m.T n (.p c x) ds = .ok d o) :
    ∃ a ps, (m.nm K).c c = some a ∧ ClsF K a ∧ PropOk Pg w K mg base a x (3 * n) ps (toSp K w (m.nm K) (dsp (run m.T n) (.p c x))) := by
  obtain ⟨fn, k, hT, _, _, _⟩ := run_ok h
  obtain ⟨y, hy, _⟩ := T_of hT
  obtain ⟨hm, hk⟩ := find_of hy
  have hB := chk_def L hm
  unfold keyB at hB
  rw [hk] at hB
  obtain ⟨h1, h2⟩ := ba hB
  obtain ⟨g1, g2⟩ := cls_glo L h1
  obtain ⟨fd, F⟩ := L.fd y hm
  have D0 := defB_ok (sd y hm)
  refine ⟨_, y.ps, g2, clsB_ok (chk_cls L h1).1, ⟨_, _, fd, propB_ok h2, ?_, binds0 D0 F⟩⟩
  exact ih _ _ hy fd F
theorem methK_of (L : Left m K mg) (sd : ∀ d, d ∈ m.defs → defB d = true) {n : Nat} (ih : AllFn m Pg w K mg base n) {c x kw : Str} {ds : List D} {d : D} {o : List MV} (hP : m.P x = some kw) (h : run m.T n (.m c x) ds = .ok d o) :
    ∃ a ps, (m.nm K).c c = some a ∧ ClsF K a ∧ MethKOk Pg w K mg base a x kw (3 * n) ps (toSp K w (m.nm K) (dsp (run m.T n) (.m c x))) := by
  obtain ⟨fn, k, hT, _, _, _⟩ := run_ok h
  obtain ⟨y, hy, _⟩ := T_of hT
  obtain ⟨hm, hk⟩ := find_of hy
  have hB := chk_def L hm
  unfold keyB at hB
  rw [hk] at hB
  obtain ⟨h1, h2⟩ := ba hB
  obtain ⟨h2, h3⟩ := ba h2
  obtain ⟨g1, g2⟩ := cls_glo L h1
  obtain ⟨fd, F⟩ := L.fd y hm
  have D0 := defB_ok (sd y hm)
  have hP' : m.K.lookup x = some kw := hP
  rw [hP'] at h3
  simp only [] at h3
  refine ⟨_, y.ps, g2, clsB_ok (chk_cls L h1).1, ⟨_, fd, ih _ _ hy fd F, meth_ok h2, ?_⟩⟩
  split at h3
  · rename_i s k hps
    simp only [Bool.and_eq_true, decide_eq_true_eq, List.isEmpty_iff] at h3
    obtain ⟨rfl, hne, hdf⟩ := h3
    have F2 : FunD K y.name y.qual y.params y.body y.scope [] [] (adK K y.key) fd := by
      have := F
      unfold FnY DefY.dv at this
      rw [hdf] at this
      exact this
    have pl := D0.pl
    rw [hps] at pl ⊢
    exact kbinds_gen F2 pl hne
  · cases h3
theorem G_fn {x : Str} {mu : List Bool} {dfl : List D} (L : Left m K mg) (h : m.G x = some (.fn mu dfl)) : ∃ d, m.find (.f x) = some d ∧ dfl = d.dfl ∧ mu = d.mu := by
  unfold MD.G at h
  split at h
  · rename_i d hd; cases h; exact ⟨d, hd, rfl, rfl⟩
  · split at h
    · cases h
    · have := chk_tab L (look_memG h)
      cases this
theorem G_cls {x : Str} {np : Nat} {dfl : List D} (L : Left m K mg) (h : m.G x = some (.cls np dfl)) : ∃ d, m.find (.i x) = some d ∧ dfl = d.dfl := by
  unfold MD.G at h
  split at h
  · cases h
  · split at h
    · rename_i d hd; cases h; exact ⟨d, hd, rfl⟩
    · have := chk_tab L (look_memG h)
      cases this
theorem G_tab {x : Str} {k : GK} (h : m.G x = some k) (h1 : ∀ mu dfl, k ≠ .fn mu dfl) (h2 : ∀ np dfl, k ≠ .cls np dfl) : (x, k) ∈ m.tab := by
  unfold MD.G at h
  split at h
  · cases h; exact (h1 _ _ rfl).elim
  · split at h
    · cases h; exact (h2 _ _ rfl).elim
    · exact look_memG h
theorem glo_of (L : Left m K mg) (sd : ∀ d, d ∈ m.defs → defB d = true) {n : Nat} (ih : AllFn m Pg w K mg base n) {N : List Str} {qual : Str} {scope : Scope} {f : Addr} {cdv : Value} {A : Around} {outer : List Env} {s : Shared} {H : Hp} {E : XK} {O : Addr → Prop} {ba' : Option Addr} (hr : Room (3 * n + 2) (A.deeper (envOfC qual scope s.heap.objs.size f cdv))) :
    Glo (run m.T n) n m.G m.Af m.P (cxOf CX0 Pg w K mg base N qual scope f cdv A outer s H E).nox (fx0 K w (m.nm K) H O ba') where
  fit := inferInstance
  room := hr
  calm := rfl
  b := by
    have f : ∀ x, x ∈ bltNames → mg x = none := fun x h => chk_blt L h
    exact ⟨f _ (by decide +kernel), f _ (by decide +kernel), f _ (by decide +kernel), f _ (by decide +kernel), f _ (by decide +kernel), f _ (by decide +kernel), f _ (by decide +kernel), f _ (by decide +kernel), f _ (by decide +kernel), f _ (by decide +kernel), f _ (by decide +kernel), f _ (by decide +kernel), f _ (by decide +kernel), f _ (by decide +kernel), f _ (by decide +kernel), f _ (by decide +kernel), f _ (by decide +kernel), f _ (by decide +kernel), f _ (by decide +kernel)⟩
  blt := fun x b h => by
    have := chk_tab L (G_tab h (by simp) (by simp))
    unfold entB at this
    obtain ⟨h1, h2⟩ := ba this
    obtain ⟨h2, h3⟩ := ba h2
    refine ⟨L.free x h1, of_decide_eq_true h2, ?_⟩
    split at h3
    · rename_i i hi; exact ⟨i, hi, of_decide_eq_true h3⟩
    · cases h3
  bty := fun x b T h => by
    have := chk_tab L (G_tab h (by simp) (by simp))
    unfold entB at this
    obtain ⟨h1, h2⟩ := ba this
    obtain ⟨h2, h3⟩ := ba h2
    obtain ⟨h3, h4⟩ := ba h3
    obtain ⟨h4, h5⟩ := ba h4
    exact ⟨L.free x h1, of_decide_eq_true h2, of_decide_eq_true h3, of_decide_eq_true h4, of_decide_eq_true h5⟩
  int := fun x k h => L.int x k (chk_tab L (G_tab h (by simp) (by simp)))
  fn := fun x mu dfl h => by
    obtain ⟨d, hd, rfl, rfl⟩ := G_fn L h
    obtain ⟨hm, hk⟩ := find_of hd
    obtain ⟨fd, F⟩ := L.fd d hm
    have D0 := defB_ok (sd d hm)
    have hB := chk_def L hm
    unfold keyB at hB
    rw [hk] at hB
    have e : adK K d.key = ga K x := by rw [hk]; rfl
    refine ⟨_, fd, d.ps, d.dv K, ih _ _ hd fd F, L.glo x hB, ?_, dV_rep (L.dv d hm), fun j hj => binds_gen F D0.pl (nd_ps D0) (by unfold DefY.dv; rw [dVs_len]; exact D0.dl) j hj⟩
    have := F.kp
    rw [e] at this
    exact this
  cls := fun c np dfl h => by
    obtain ⟨d, hd, rfl⟩ := G_cls L h
    obtain ⟨hm, hk⟩ := find_of hd
    have hc : m.cs.contains c = true := mem_cs.mpr ⟨d, hm, hk⟩
    obtain ⟨g1, g2⟩ := cls_glo L hc
    refine ⟨_, g1, fun ds r o ho => ⟨g2, clsB_ok (chk_cls L hc).1, ?_⟩⟩
    obtain ⟨fd, F⟩ := L.fd d hm
    have D0 := defB_ok (sd d hm)
    have hB := chk_def L hm
    unfold keyB at hB
    rw [hk] at hB
    exact ⟨_, fd, d.ps, d.dv K, mkr_ok (ba hB).1, ih _ _ hd fd F, dV_rep (L.dv d hm), fun j hj => binds_gen F D0.pl (nd_ps D0) (by unfold DefY.dv; rw [dVs_len]; exact D0.dl) j hj⟩
  glc := fun c np dfl h => by
    obtain ⟨d, hd, rfl⟩ := G_cls L h
    obtain ⟨hm, hk⟩ := find_of hd
    exact ⟨_, cls_glo L (mem_cs.mpr ⟨d, hm, hk⟩)⟩
  glf := fun x mu dfl h => by
    obtain ⟨d, hd, rfl, rfl⟩ := G_fn L h
    obtain ⟨hm, hk⟩ := find_of hd
    have hB := chk_def L hm
    unfold keyB at hB
    rw [hk] at hB
    refine ⟨_, L.glo x hB, ?_⟩
    show (if (m.find (.f x)).isSome = true then some (ga K x) else none) = _
    rw [hd]; rfl
  meth := fun c x ds d o h => meth_of L sd ih h
  methK := fun c x kw ds d o h => methK_of L sd ih h
  prop := fun c x ds d o h => prop_of L sd ih h
  fld := fun f c a h1 h2 => by
    obtain ⟨hc, rfl⟩ := nm_c h2
    exact noat_ok ((chk_cls L hc).2.2.2 (f, true) (look_memG h1) rfl)
  isi := fun c a c' a' h1 h2 => by
    obtain ⟨hc, rfl⟩ := nm_c h1
    obtain ⟨hc', rfl⟩ := nm_c h2
    exact (chk_cls L hc).2.1 c' hc'
  isb := fun T c a hT h1 => by
    obtain ⟨hc, rfl⟩ := nm_c h1
    exact ((chk_cls L hc).2.2.1 T hT).1
  ist := fun T c a hT h1 => by
    obtain ⟨hc, rfl⟩ := nm_c h1
    exact ((chk_cls L hc).2.2.1 T hT).2
theorem startN_eq {N : List Str} {ds : List D} : startN N.length ds = startE N ds := rfl
theorem fin_ok {ds : List D} {r : Out Flow En} {d : D} {o : List MV} (h : fin ds r = .ok d o) : ∃ fl ρ, r = .ok fl ρ ∧ ((fl = .ret d ∧ o = outs ds ρ) ∨ (fl = .nx ∧ d = .non ∧ o = outs ds ρ)) := by
  cases r with
  | ok fl ρ =>
    cases fl with
    | ret d' => cases h; exact ⟨_, _, rfl, .inl ⟨rfl, rfl⟩⟩
    | nx => cases h; exact ⟨_, _, rfl, .inr ⟨rfl, rfl, rfl⟩⟩
    | bk => cases h
    | ct => cases h
  | exn x s => cases h
  | stuck => cases h
/-- every def, so deep as you like -/
theorem all_fn (L : Left m K mg) (sd : ∀ d, d ∈ m.defs → defB d = true) : ∀ n, AllFn m Pg w K mg base n
  | 0 => by
    intro f d hd fd F
    refine fn_none fun ds Q h => ?_
    obtain ⟨_, _, h, _⟩ := h
    cases h
  | n + 1 => by
    intro f d hd fd F
    obtain ⟨hm, hk⟩ := find_of hd
    have D0 := defB_ok (sd d hm)
    subst hk
    cases hT : m.T d.key with
    | none =>
      refine fn_none fun ds Q h => ?_
      obtain ⟨_, _, h, _⟩ := h
      obtain ⟨fn, k, hT', _⟩ := run_ok h
      rw [hT] at hT'
      cases hT'
    | some fn =>
      obtain ⟨d', hd', b, hb, rfl⟩ := T_of hT
      rw [hd] at hd'
      cases hd'
      refine dfnD F D0.sc (fun ds Q ⟨_, _, h, _⟩ => ?_) fun cdv A outer s H E ds O ba' Q' hr ⟨dd, oo, h, q⟩ => ?_
      · obtain ⟨fn', k, hT', _, hl, _⟩ := run_ok h
        rw [hT] at hT'
        cases hT'
        exact hl
      · obtain ⟨fn', k, hT', hn, hl, hf⟩ := run_ok h
        rw [hT] at hT'
        cases hT'
        cases hn
        obtain ⟨fl, ρ, he, hq⟩ := fin_ok hf
        have hh : Here (m.sc d) (cxOf CX0 Pg w K mg base d.N d.qual d.scope (adK K d.key) cdv A outer s H E).nox := here_def rfl D0.sc.nd rfl D0.sc.kind (fun _ => rfl) PySem.PassesOwn.never
        have g := glo_of L sd (all_fn L sd n) (Pg := Pg) (w := w) (base := base) (N := d.N) (qual := d.qual) (scope := d.scope) (f := adK K d.key) (cdv := cdv) (A := A) (outer := outer) (s := s) (H := H) (E := E) (O := O) (ba' := ba') hr
        refine (allS 300).B (m.sc d) d.body b hb rfl hh g he ?_
        rcases hq with ⟨rfl, rfl⟩ | ⟨rfl, rfl, rfl⟩
        · exact q
        · exact q
end
end Ev

end
section -- Em
set_option maxRecDepth 100000
set_option maxHeartbeats 4000000
/-! The top. -/
namespace Ev
open PySem PySem.Spec L2 Sx Dx He
open PyProof.Rows hiding St
abbrev AlY : Type := Bool × List FnW
def obsY (m : MD) (K : PySem.W.Frag) : AlY := (m.chk K, m.defs.map fun d => d.obs K)
def valY (m : MD) : AlY := (true, m.defs.map DefY.val)
def obsYG (n : Nat) (m : MD) (g : Addr → Option Obj) : AlY := obsY m (frG g (asD g n))
def hookY (n : Nat) (m : MD) : PySem.W.Hook where
  α := AlY
  obs := fun s => obsYG n m s.heap.get?
  val := fun _ => valY m
  says := fun _ h => ∃ K : PySem.W.Frag, K.In h ∧ obsY m K = valY m
  of := fun _ _ e => ⟨_, frG_in, e⟩
  keeps := fun _ _ _ ⟨K, hK, c⟩ k => ⟨K, PySem.W.Frag.In.keeps hK k, c⟩
theorem obsYG_eq {n : Nat} {m : MD} {g : Addr → Option Obj} {s : Shared} (h : ∀ a, g a = s.heap.get? a) : obsYG n m g = (hookY n m).obs s := by
  have e : g = s.heap.get? := funext h
  rw [e] <;> rfl
theorem defs_of {K : PySem.W.Frag} : ∀ {ds : List DefY}, (ds.map fun d => d.obs K) = ds.map DefY.val → ∀ d, d ∈ ds → d.obs K = d.val
  | [], _, d, h => by cases h
  | x :: xs, e, d, h => by
    rw [List.map_cons, List.map_cons] at e
    obtain ⟨e1, e2⟩ := List.cons.inj e
    rcases List.mem_cons.mp h with rfl | h
    · exact e1
    · exact defs_of e2 d h
theorem left_of {m : MD} {K : PySem.W.Frag} {h : Heap} {mg : Str → Option Value} (X : K.In h) (G : h.Ns mainGlobals mg) (c : obsY m K = valY m) : Left m K mg := by
  have c1 : m.chk K = true := congrArg (fun z : AlY => z.1) c
  have c2 : (m.defs.map fun d => d.obs K) = m.defs.map DefY.val := congrArg (fun z : AlY => z.2) c
  have hd : ∀ d, d ∈ m.defs → dvB K d.key 0 d.dfl = true ∧ ∃ fd, FnY K d fd := fun d hd => by
    have := c1
    unfold MD.chk at this
    exact DefY.funD (defs_of c2 d hd) (ba (List.all_eq_true.mp (ba this).1 d hd)).1
  exact ⟨c1, fun d h => (hd d h).2, fun d h => (hd d h).1, fun x hx => glo_ok X G hx, fun x hx => free_ok X G hx, fun x i hx => int_ok X G hx⟩
theorem ints_rep {K : PySem.W.Frag} {w : World} {cl : Nm} {O : Addr → Prop} {H : Hp} : ∀ ns : List Int, RepL K w cl O H (ns.map V.int) (ns.map D.int)
  | [] => .nil
  | i :: is => .cons (.int i) (ints_rep is)
/-- the script as it is handed in -/
theorem law_sp {m : MD} {K : PySem.W.Frag} {w : World} {n N : Nat} {f : FK} (hr : ∀ ns : List Int, ns.length ≤ n → ∃ o, run m.T N f [.scr (ns.map D.int)] = .ok (.bl true) o) (H : Hp) (a : Addr) (ns : List Int) (hl : ns.length ≤ n) (hS : SqL K H a (ns.map V.int)) (E : XK) :
    toSp K w (m.nm K) (dsp (run m.T N) f) [.ref a] H (fun v _ => v = .bl true) E := by
  have hR := fun O H => ints_rep (K := K) (w := w) (cl := m.nm K) (O := O) (H := H) ns
  obtain ⟨o, ho⟩ := hr ns hl
  refine ⟨[.scr (ns.map D.int)], fun _ => False, none, fun d o => d = .bl true, fun b h => h.elim, .rep ?_ .nil, ⟨_, _, ho, rfl⟩, ?_⟩
  · rcases hS with h | h
    · exact .scr h id (hR _ _)
    · exact .scrK (fun H => .inr h) (hR _ _)
  · rintro d o rfl v H' t R
    cases t with
    | none =>
      have := R.res rfl
      cases this
      rfl
    | some b =>
      obtain ⟨us, ds, _, e, _⟩ := R.new b rfl
      cases e
theorem law_facts {m : MD} {n N : Nat} {x : Str} {d : DefY} (sd : (m.defs.all defB) = true) (hd : m.find (.f "law") = some d) (hx : d.ps = [x]) (hdf : d.dfl = []) (hr : ∀ ns : List Int, ns.length ≤ n → ∃ o, run m.T N (.f "law") [.scr (ns.map D.int)] = .ok (.bl true) o)
    {Pg : Program} {w : World} {K : PySem.W.Frag} {h : Heap} {mg : Str → Option Value} {fa : Addr} (X : K.In h) (G : h.Ns mainGlobals mg) (hfa : mg ("law" : Str) = some (.ref fa)) (c : obsY m K = valY m) :
    ∃ (K' : PySem.W.Frag) (fd : FuncData) (sp : Sp), K'.In h ∧ (∀ (s : Shared) (u : Value), BindsTo s fd ⟨[u], []⟩ [(x, u)]) ∧
        (∀ (H : Hp) (a : Addr) (ns : List Int), ns.length ≤ n → Only H → SqL K' H a (ns.map V.int) → sp [.ref a] H (fun v _ => v = .bl true) fun _ _ _ => False) ∧
        ∀ base : Heap, K'.In base → base.Ns mainGlobals mg → FnOk Pg w K' mg base CX0 (3 * N) fa fd [x] sp := by
  have L := left_of X G c
  have sd' : ∀ d, d ∈ m.defs → defB d = true := List.all_eq_true.mp sd
  obtain ⟨hm, hk⟩ := find_of hd
  obtain ⟨fd, F⟩ := L.fd d hm
  have D0 := defB_ok (sd' d hm)
  have hB := chk_def L hm
  unfold keyB at hB
  rw [hk] at hB
  have e := hfa.symm.trans (L.glo _ hB)
  cases e
  have F2 : FunD K d.name d.qual d.params d.body d.scope [] [] (adK K d.key) fd := by
    have := F
    unfold FnY DefY.dv at this
    rw [hdf] at this
    exact this
  refine ⟨K, fd, toSp K w (m.nm K) (dsp (run m.T N) (.f "law")), X, fun s u => ?_, fun H a ns hl _ hS => law_sp hr H a ns hl hS _, fun base _ _ => ?_⟩
  · have := FunD.bindsA (ps := d.ps) F2 (fun kV doc pm an cdv ct us hl => by
      obtain ⟨k, h1, h2⟩ := bind_dfl (x := d.name) (qual := d.qual) (body := d.body) (scope := d.scope) (kV := kV) (doc := doc) (pm := pm) (cdv := cdv) (ct := ct) (an := an) (us := us) (its := []) (j := 0) .none D0.pl (nd_ps D0) (by simp) (by simpa using hl) (by simp)
      rw [h1]
      show k none = _
      rw [h2 none rfl]
      simp) s [u] (by rw [hx]; rfl)
    rw [hx] at this
    exact this
  · have := all_fn (Pg := Pg) (w := w) (base := base) L sd' N (.f "law") d hd fd F
    rw [hx] at this
    exact this
end Ev

end
section -- Hk08
set_option maxRecDepth 100000
set_option maxHeartbeats 0
namespace Lw
open PySem PySem.W PySem.Spec PyProof.Rows L2 Ev Dx
def top (i : Nat) : Stmt := PySem.Challenge.pw_hoursums_k08_whole_sums_of_many_summands.main.body.getD i (.Pass ⟨0, 0, 0, 0⟩)
def inClass : Stmt → Nat → Stmt
  | .ClassDef _ _ _ body _ _ _ _ _ _ _, i => body.getD i (.Pass ⟨0, 0, 0, 0⟩)
  | st, _ => st
def nameOf : Stmt → Str
  | .FunctionDef n _ _ _ _ _ _ _ _ _ => n
  | _ => ""
def mkY (key : FK) (qual : Str) (N ps : List Str) (mu : List Bool) (dfl : List D) (st : Stmt) : DefY := ⟨key, nameOf st, qual, defArgs st, defBody st, defScope st, N, ps, mu, dfl⟩
def d0 : DefY := mkY (.f "is_integer") "is_integer" ["value"] ["value"] [false] [] (top 14)
def d1 : DefY := mkY (.f "is_hour") "is_hour" ["clock", "value"] ["clock", "value"] [false, false] [] (top 15)
def d2 : DefY := mkY (.f "wrong_index") "wrong_index" ["clock", "hours", "before", "index", "hour"] ["clock", "hours"] [false, false] [] (top 16)
def d3 : DefY := mkY (.f "check_integer") "check_integer" ["number"] ["number"] [false] [] (top 17)
def d4 : DefY := mkY (.f "check_clock") "check_clock" ["clock", "most"] ["clock", "most"] [false, false] [] (top 18)
def d5 : DefY := mkY (.f "check_times") "check_times" ["times", "least"] ["times", "least"] [false, false] [.int (0)] (top 19)
def d6 : DefY := mkY (.f "check_hour") "check_hour" ["clock", "hour"] ["clock", "hour"] [false, false] [] (top 20)
def d7 : DefY := mkY (.f "check_hours") "check_hours" ["clock", "hours", "index"] ["clock", "hours"] [false, false] [] (top 21)
def d8 : DefY := mkY (.f "mask_of") "mask_of" ["hours", "mask", "hour"] ["hours"] [false] [] (top 24)
def d9 : DefY := mkY (.f "hours_of") "hours_of" ["mask", "hour"] ["mask"] [false] [] (top 25)
def d10 : DefY := mkY (.f "whole_mask") "whole_mask" ["clock"] ["clock"] [false] [] (top 26)
def d11 : DefY := mkY (.f "wrapped") "wrapped" ["clock", "mask"] ["clock", "mask"] [false, false] [] (top 27)
def d12 : DefY := mkY (.f "scaled") "scaled" ["clock", "mask", "factor", "hour"] ["clock", "mask", "factor"] [false, false, false] [] (top 28)
def d13 : DefY := mkY (.f "sums") "sums" ["clock", "one", "other", "total", "hour"] ["clock", "one", "other"] [false, false, false] [] (top 29)
def d14 : DefY := mkY (.f "folded") "folded" ["clock", "mask", "times", "total", "doubled", "left"] ["clock", "mask", "times"] [false, false, false] [] (top 30)
def d15 : DefY := mkY (.f "fewest_summands") "fewest_summands" ["clock", "mask", "fewest", "times", "reached", "latest", "hour"] ["clock", "mask"] [false, false] [] (top 31)
def d16 : DefY := mkY (.i "Hours") "Hours.__init__" ["self", "clock", "hours"] ["self", "clock", "hours"] [false, false, false] [.tup []] (inClass (top 33) 0)
def d17 : DefY := mkY (.p "Hours" "clock") "Hours.clock" ["self"] ["self"] [false] [] (inClass (top 33) 3)
def d18 : DefY := mkY (.p "Hours" "hours") "Hours.hours" ["self"] ["self"] [false] [] (inClass (top 33) 4)
def d19 : DefY := mkY (.p "Hours" "onset") "Hours.onset" ["self"] ["self"] [false] [] (inClass (top 33) 5)
def d20 : DefY := mkY (.p "Hours" "span") "Hours.span" ["self"] ["self"] [false] [] (inClass (top 33) 6)
def d21 : DefY := mkY (.m "Hours" "__add__") "Hours.__add__" ["self", "other"] ["self", "other"] [false, false] [] (inClass (top 33) 7)
def d22 : DefY := mkY (.m "Hours" "__sub__") "Hours.__sub__" ["self", "other", "negative"] ["self", "other"] [false, false] [] (inClass (top 33) 8)
def d23 : DefY := mkY (.m "Hours" "__or__") "Hours.__or__" ["self", "other"] ["self", "other"] [false, false] [] (inClass (top 33) 9)
def d24 : DefY := mkY (.m "Hours" "__and__") "Hours.__and__" ["self", "other"] ["self", "other"] [false, false] [] (inClass (top 33) 10)
def d25 : DefY := mkY (.m "Hours" "__invert__") "Hours.__invert__" ["self"] ["self"] [false] [] (inClass (top 33) 11)
def d26 : DefY := mkY (.m "Hours" "__neg__") "Hours.__neg__" ["self"] ["self"] [false] [] (inClass (top 33) 12)
def d27 : DefY := mkY (.m "Hours" "__mul__") "Hours.__mul__" ["self", "other"] ["self", "other"] [false, false] [] (inClass (top 33) 13)
def d28 : DefY := mkY (.m "Hours" "period") "Hours.period" ["self"] ["self"] [false] [] (inClass (top 33) 14)
def d29 : DefY := mkY (.m "Hours" "moved") "Hours.moved" ["self", "by"] ["self", "by"] [false, false] [] (inClass (top 33) 15)
def d30 : DefY := mkY (.m "Hours" "fold") "Hours.fold" ["self", "times"] ["self", "times"] [false, false] [] (inClass (top 33) 16)
def d31 : DefY := mkY (.m "Hours" "fewest") "Hours.fewest" ["self", "hour"] ["self", "hour"] [false, false] [] (inClass (top 33) 17)
def d32 : DefY := mkY (.m "Hours" "row") "Hours.row" ["self", "hour", "fewest", "told", "rest", "left", "least", "a"] ["self", "hour"] [false, false] [] (inClass (top 33) 18)
def d33 : DefY := mkY (.m "Hours" "__contains__") "Hours.__contains__" ["self", "x"] ["self", "x"] [false, false] [] (inClass (top 33) 19)
def d34 : DefY := mkY (.m "Hours" "__len__") "Hours.__len__" ["self"] ["self"] [false] [] (inClass (top 33) 20)
def d35 : DefY := mkY (.m "Hours" "__bool__") "Hours.__bool__" ["self"] ["self"] [false] [] (inClass (top 33) 21)
def d36 : DefY := mkY (.m "Hours" "__str__") "Hours.__str__" ["self", "hour"] ["self"] [false] [] (inClass (top 33) 22)
def d37 : DefY := mkY (.m "Hours" "__repr__") "Hours.__repr__" ["self"] ["self"] [false] [] (inClass (top 33) 23)
def d38 : DefY := mkY (.m "Hours" "__eq__") "Hours.__eq__" ["self", "other"] ["self", "other"] [false, false] [] (inClass (top 33) 24)
def d39 : DefY := mkY (.f "of_mask") "of_mask" ["clock", "mask"] ["clock", "mask"] [false, false] [] (top 34)
def d40 : DefY := mkY (.f "check_one") "check_one" ["one"] ["one"] [false] [] (top 35)
def d41 : DefY := mkY (.f "check_other") "check_other" ["clock", "other"] ["clock", "other"] [false, false] [] (top 36)
def d42 : DefY := mkY (.f "parsed") "parsed" ["text", "numbers", "head", "words", "clock", "hours", "number", "word"] ["text"] [false] [] (top 37)
def d43 : DefY := mkY (.f "_law_purse") "_law_purse" ["script", "spot", "cell", "seed", "one"] ["script", "spot"] [false, false] [] (top 39)
def d44 : DefY := mkY (.f "_law_draw") "_law_draw" ["purse", "many", "digit"] ["purse", "many"] [true, false] [] (top 40)
def d45 : DefY := mkY (.f "_law_some") "_law_some" ["purse", "many", "rate", "k"] ["purse", "many"] [true, false] [] (top 41)
def d46 : DefY := mkY (.f "_law_sums") "_law_sums" ["many", "row", "mates", "found", "x", "y"] ["many", "row", "mates"] [false, false, false] [] (top 42)
def d47 : DefY := mkY (.f "_law_fold") "_law_fold" ["many", "row", "count", "found", "turn"] ["many", "row", "count"] [false, false, false] [] (top 43)
def d48 : DefY := mkY (.f "_law_far") "_law_far" ["purse", "far", "turn"] ["purse"] [true] [] (top 44)
def d49 : DefY := mkY (.f "_law_right") "_law_right" ["purse", "turn", "many", "row", "dial", "sums_v", "count", "far", "near", "less"] ["purse"] [true] [] (top 45)
def d50 : DefY := mkY (.f "law") "law" ["script", "spot"] ["script"] [false] [] (top 46)
def tab : List (Str × GK) := [("MOST_HOURS", GK.int (240)), ("MOST_TIMES", GK.int (1000000000000000000000000000000)), ("ZERO_ALONE", GK.int (1)), ("len", GK.blt .len), ("abs", GK.blt .abs), ("sorted", GK.blt .sorted), ("all", GK.blt .all), ("divmod", GK.blt .divmod), ("isinstance", GK.blt .isinstance), ("max", GK.blt .max), ("min", GK.blt .min), ("int", GK.bty .int "int"), ("tuple", GK.bty .tuple "tuple"), ("set", GK.bty .set "set"), ("str", GK.bty .str "str"), ("bool", GK.bty .bool "bool")]
def attrs : List (Str × Bool) := [("_clock", true), ("_hours", true), ("_mask", true), ("clock", false), ("hours", false), ("onset", false), ("span", false)]
def kwn : List (Str × Str) := [("fold", "times")]
def m : MD := ⟨[d0, d1, d2, d3, d4, d5, d6, d7, d8, d9, d10, d11, d12, d13, d14, d15, d16, d17, d18, d19, d20, d21, d22, d23, d24, d25, d26, d27, d28, d29, d30, d31, d32, d33, d34, d35, d36, d37, d38, d39, d40, d41, d42, d43, d44, d45, d46, d47, d48, d49, d50], tab, attrs, kwn⟩
def names0 : List PySem.Str := ["_wall", "__name__", "WrongValue", "InvalidText", "InvalidNumber", "InvalidHour", "NotHours", "OtherClock", "InvalidHours", "NoAnswer", "TooMany", "MOST_HOURS", "MOST_TIMES", "is_integer", "is_hour", "wrong_index"]
def names1 : List PySem.Str := ["check_integer", "check_clock", "check_times", "check_hour", "check_hours", "ZERO_ALONE", "mask_of", "hours_of", "whole_mask", "wrapped", "scaled", "sums", "folded", "fewest_summands", "Hours", "of_mask"]
def names2 : List PySem.Str := ["check_one", "check_other", "parsed", "_law_purse", "_law_draw", "_law_some", "_law_sums", "_law_fold", "_law_far", "_law_right"]
def names : List PySem.Str := names0 ++ names1 ++ names2
abbrev R : OpenRow := OpenLaw.row PySem.Challenge.rw_hoursums_k08_whole_sums_of_many_summands
abbrev hk : Hook := hookY 6 m
def ob (s : SharedT) : AlY := obsYG 6 m (HandSHeadRun.getT s)
theorem ob_eq (s : SharedT) : ob s = hk.obs s.abs := obsYG_eq (HandSHeadRun.getT_eq s)
theorem sd : (m.defs.all defB) = true := by kernel_rfl
end Lw


end
section -- Qk08
set_option maxRecDepth 100000
set_option maxHeartbeats 0
namespace Lw
open PySem PySem.W PySem.Spec PyProof.Rows L2 Ev Dx
theorem run (w : World) : HandSHeadRun.RunEq R (view R.prog [46]) hk ob 12000 names w := by
  intro os
  kernel_rfl
theorem holds {N : Nat} (hN : N ≤ 70) (hr : ∀ ns : List Int, ns.length ≤ 63 → ∃ o, Ev.run m.T N (.f "law") [.scr (ns.map D.int)] = .ok (.bl true) o) : (PySem.Challenge.rw_hoursums_k08_whole_sums_of_many_summands).Holds := by
  w_on; o_law
  refine HandSHeadRun.head_any (r := R) (q := view R.prog [46]) (H := hk) (ob := ob) (M := 12000) (loose := names) (d := HandSHeadRun.topDef R.prog 46) (kwd := []) ob_eq
    (by kernel_rfl) (fun s => by kernel_rfl) run (by kernel_rfl) (by kernel_rfl) (by kernel_rfl) (by rfl) (by first | assumption | decide +kernel) (by decide +kernel) ⟨rfl, rfl, rfl, rfl, rfl, by decide +kernel⟩ ?hw ?hc
  case hw => w_witness2
  case hc =>
    refine L2.walk_ofE (l := PySem.Challenge.rw_hoursums_k08_whole_sums_of_many_summands) (n := 63) (k := 3 * N) (x := "script") (CX := L2.CX0) rfl (by decide) (by kernel_rfl) ⟨rfl, ?_, ?_⟩ ?F (fun _ _ _ _ z => z)
    · have h1 : callerA.depth ≤ 301 := by decide
      have h2 : recursionLimit = 1000 := rfl
      omega
    · have h1 : callerA.units ≤ 100 := by decide
      have h2 : 5000 ≤ cLine := by decide
      omega
    intro w mg fa h Y G hmg0
    obtain ⟨K, KX, c⟩ := Y
    have hmg : mg ("law" : PySem.Str) = some (.ref fa) := by
      have e : (HandSHeadRun.topDef R.prog 46).name = ("law" : PySem.Str) := by kernel_rfl
      rw [← e]
      exact hmg0
    exact law_facts sd (d := d50) (by rfl) rfl rfl hr KX G hmg c
end Lw


end
section -- Eo
set_option maxRecDepth 100000
set_option maxHeartbeats 4000000
/-! Runs, step by step. -/
namespace Ev
open PySem Dx
theorem run_of {T : Tab} {f : FK} {np ns : Nat} {mu : List Bool} {body : List IS} (h : T f = some ⟨np, ns, mu, body⟩) {ds : List D} (hl : ds.length = np) (n : Nat) : run T (n + 1) f ds = fin ds (evB (run T n) body (startN ns ds)) := by
  unfold run
  rw [h]
  exact if_pos hl
section
variable {α β σ : Type}
theorem bind_eq {a : α} {s : σ} {f : α → σ → Out β σ} : (Out.ok a s).bind f = f a s := (rfl)
theorem lift_some {a : α} {ρ : En} : lift (some a) ρ = .ok a ρ := (rfl)
theorem thenF_nx {ρ : En} {k : En → Out Flow En} : thenF (.ok .nx ρ) k = k ρ := (rfl)
theorem thenF_ret {d : D} {ρ : En} {k : En → Out Flow En} : thenF (.ok (.ret d) ρ) k = .ok (.ret d) ρ := (rfl)
theorem back_none' {d : D} {o : List MV} {ρ : En} : back ρ none (.ok d o) = .ok d ρ := (rfl)
theorem fin_ret {ds : List D} {d : D} {ρ : En} : fin ds (.ok (.ret d) ρ) = .ok d (outs ds ρ) := (rfl)
theorem fin_nx {ds : List D} {ρ : En} : fin ds (.ok .nx ρ) = .ok .non (outs ds ρ) := (rfl)
end
theorem forD_nil {step : D → En → Out Flow En} {ρ : En} : forD step [] ρ = .ok .nx ρ := rfl
/-- a loop that runs through: what it keeps -/
theorem forD_fold {α : Type} {step : D → En → Out Flow En} (g : α → D → α) (e : α → En) : ∀ {xs : List D} {a : α}, (∀ a x, x ∈ xs → step x (e a) = .ok .nx (e (g a x)) ∨ step x (e a) = .ok .ct (e (g a x))) → forD step xs (e a) = .ok .nx (e (xs.foldl g a))
  | [], a, _ => rfl
  | x :: xs, a, h => by
    unfold forD
    rcases h a x (List.mem_cons_self ..) with h1 | h1
    · rw [h1]
      exact forD_fold g e fun a y hy => h a y (List.mem_cons_of_mem _ hy)
    · rw [h1]
      exact forD_fold g e fun a y hy => h a y (List.mem_cons_of_mem _ hy)
/-- a comprehension of one turn each -/
theorem lcD_map {step : D → En → Out (Option D) En} {ρ : En} (g : D → Option D) : ∀ {xs : List D}, (∀ x, x ∈ xs → step x ρ = .ok (g x) ρ) → lcD step xs ρ = .ok (xs.filterMap g) ρ
  | [], _ => rfl
  | x :: xs, h => by
    unfold lcD
    rw [h x (List.mem_cons_self ..), bind_eq, lcD_map g (xs := xs) fun y hy => h y (List.mem_cons_of_mem _ hy), bind_eq, List.filterMap_cons]
    cases g x <;> rfl
/-! ### the steps, one by one -/
theorem bind_cong {α β σ : Type} {o o' : Out α σ} {f : α → σ → Out β σ} (h : o = o') : o.bind f = o'.bind f := by rw [h]
theorem then_cong {o o' : Out Flow En} {k : En → Out Flow En} (h : o = o') : thenF o k = thenF o' k := by rw [h]
theorem ite_cong {α : Type} {p q : Prop} [Decidable p] [Decidable q] {a b : α} (h : p = q) : (if p then a else b) = (if q then a else b) := by subst h; congr
section
variable {C : Cal} {n i j : Nat} {a b : Int} {k l : Bool} {x y z d : D} {ds es : List D} {ρ : En} {m : MV} {op : Operator} {f : Str} {c : Str} {fs gs : List (Str × D)} {u v : Str}
def gvO (i : Nat) (ρ : En) : Option (Option D) → OE
  | some (some (.own m)) => .ok m.fz (ρ.set i (some m.fz))
  | some (some (.bor _)) => .stuck
  | some (some d) => .ok d ρ
  | _ => .stuck
theorem getVar_eq : getVar i ρ = gvO i ρ ρ[i]? := (rfl)
theorem gv_own : gvO i ρ (some (some (.own m))) = .ok m.fz (ρ.set i (some m.fz)) := (rfl)
theorem gv_int : gvO i ρ (some (some (.int a))) = .ok (.int a) ρ := (rfl)
theorem gv_bl : gvO i ρ (some (some (.bl k))) = .ok (.bl k) ρ := (rfl)
theorem gv_str : gvO i ρ (some (some (.str u))) = .ok (.str u) ρ := (rfl)
theorem gv_non : gvO i ρ (some (some .non)) = .ok .non ρ := (rfl)
theorem gv_tup : gvO i ρ (some (some (.tup ds))) = .ok (.tup ds) ρ := (rfl)
theorem gv_lst : gvO i ρ (some (some (.lst ds))) = .ok (.lst ds) ρ := (rfl)
theorem gv_scr : gvO i ρ (some (some (.scr ds))) = .ok (.scr ds) ρ := (rfl)
theorem gv_ins : gvO i ρ (some (some (.ins c fs))) = .ok (.ins c fs) ρ := (rfl)
def kpO : Option (Option D) → Option (List D)
  | some (some d) => d.mutIs
  | _ => none
theorem keptAt_eq : keptAt i ρ = kpO ρ[i]? := (rfl)
theorem kp_some : kpO (some (some d)) = d.mutIs := (rfl)
theorem mi_own : D.mutIs (.own (.lst ds)) = some ds := (rfl)
theorem mi_bor : D.mutIs (.bor (.lst ds)) = some ds := (rfl)
theorem mi_int : D.mutIs (.int a) = none := (rfl)
theorem mi_bl : D.mutIs (.bl k) = none := (rfl)
theorem mi_str : D.mutIs (.str u) = none := (rfl)
theorem mi_non : D.mutIs .non = none := (rfl)
theorem mi_tup : D.mutIs (.tup ds) = none := (rfl)
theorem mi_lst : D.mutIs (.lst ds) = none := (rfl)
theorem mi_scr : D.mutIs (.scr ds) = none := (rfl)
theorem mi_ins : D.mutIs (.ins c fs) = none := (rfl)
def mvO : Option (Option D) → Option MV
  | some (some d) => d.mv
  | _ => none
theorem mvAt_eq : mvAt i ρ = mvO ρ[i]? := (rfl)
theorem mv_some : mvO (some (some d)) = d.mv := (rfl)
theorem mv_own : D.mv (.own m) = some m := (rfl)
theorem mv_bor : D.mv (.bor m) = some m := (rfl)
theorem mv_int : D.mv (.int a) = none := (rfl)
theorem mv_bl : D.mv (.bl k) = none := (rfl)
theorem mv_str : D.mv (.str u) = none := (rfl)
theorem mv_non : D.mv .non = none := (rfl)
theorem mv_tup : D.mv (.tup ds) = none := (rfl)
theorem mv_lst : D.mv (.lst ds) = none := (rfl)
theorem mv_scr : D.mv (.scr ds) = none := (rfl)
theorem mv_ins : D.mv (.ins c fs) = none := (rfl)
theorem fz_own : D.fz (.own m) = m.fz := (rfl)
theorem fz_l : MV.fz (.lst ds) = .lst ds := (rfl)
theorem fz_i : MV.fz (.ins c fs) = .ins c fs := (rfl)
theorem fzI : D.fz (.int a) = .int a := (rfl)
theorem fz_bl : D.fz (.bl k) = .bl k := (rfl)
theorem fz_str : D.fz (.str u) = .str u := (rfl)
theorem fz_non : D.fz .non = .non := (rfl)
theorem fzT : D.fz (.tup ds) = .tup ds := (rfl)
theorem fz_lst : D.fz (.lst ds) = .lst ds := (rfl)
theorem fz_scr : D.fz (.scr ds) = .scr ds := (rfl)
theorem fz_ins : D.fz (.ins c fs) = .ins c fs := (rfl)
theorem fz_set {ns : List Int} : D.fz (.set ns) = .set ns := (rfl)
theorem fz_ty {T : String} : D.fz (.ty T) = .ty T := (rfl)
theorem fz_gl {T : Str} : D.fz (.gl T) = .gl T := (rfl)
theorem bag_nil : bindAg ρ [] = some ([], none) := (rfl)
theorem bag_d {as : List Ag} {r : List D × Option Nat} (h : bindAg ρ as = some r) : bindAg ρ (.d x :: as) = some (x :: r.1, r.2) := by
  show (bindAg ρ as).map _ = _
  rw [h]; rfl
theorem bag_len {as : List Ag} {ds : List D} (h1 : mvAt i ρ = some m) (h : bindAg ρ as = some (ds, none)) : bindAg ρ (.len i :: as) = some (D.bor m :: ds, some i) := by
  unfold bindAg
  rw [h1, h]
theorem b_int : binO C op (.int a) (.int b) ρ = lift ((intOp op a b).map D.int) ρ := by cases op <;> rfl
theorem b_lst (h : ds.length + es.length ≤ sizeLine) : binO C .Add (.lst ds) (.lst es) ρ = .ok (.own (.lst (ds ++ es))) ρ := by
  show lift (if _ then _ else _) ρ = _
  rw [if_pos h]; rfl
theorem b_tup (h : ds.length + es.length ≤ sizeLine) : binO C .Add (.tup ds) (.tup es) ρ = .ok (.tup (ds ++ es)) ρ := by
  show lift (if _ then _ else _) ρ = _
  rw [if_pos h]; rfl
theorem b_rep (h : (0 ≤ b ∧ b < 2 ^ 24) ∧ ds.length * b.toNat ≤ sizeLine) : binO C .Mult (.lst ds) (.int b) ρ = .ok (.own (.lst (List.flatten (List.replicate b.toNat ds)))) ρ := by
  show lift (if _ then _ else _) ρ = _
  rw [if_pos h]; rfl
theorem i_add : intOp .Add a b = some (a + b) := (rfl)
theorem i_sub : intOp .Sub a b = some (a - b) := (rfl)
theorem i_mul (h : mulOk a b = true) : intOp .Mult a b = some (a * b) := if_pos h
theorem i_mod (h : 0 < b) : intOp .Mod a b = some (a % b) := if_pos h
theorem i_div (h : 0 < b ∧ b < 2 ^ 100) : intOp .FloorDiv a b = some (a / b) := if_pos h
theorem i_pow (h : 0 ≤ b ∧ b ≤ 64 ∧ a.natAbs < 2 ^ 64) : intOp .Pow a b = some (a ^ b.toNat) := if_pos h
theorem i_shl (h : 0 ≤ b ∧ (Builtin.Int.intBits a : Int) + b ≤ 2 ^ 27) : intOp .LShift a b = some (a * 2 ^ b.toNat) := if_pos h
theorem i_shr (h : 0 ≤ b) : intOp .RShift a b = some (a / 2 ^ b.toNat) := if_pos h
theorem i_and : intOp .BitAnd a b = some (Builtin.bitAnd a b) := (rfl)
theorem i_or : intOp .BitOr a b = some (Builtin.bitOr a b) := (rfl)
theorem i_xor : intOp .BitXor a b = some (Builtin.bitXor a b) := (rfl)
theorem u_neg : unO C .USub (.int a) ρ = .ok (.int (-a)) ρ := (rfl)
theorem u_inv : unO C .Invert (.int a) ρ = .ok (.int (Builtin.bitNot a)) ρ := (rfl)
theorem sz_0 : (0 ≤ sizeLine) = True := by simp [sizeLine]
theorem sz_1 : (1 ≤ sizeLine) = True := by simp [sizeLine]
theorem sz_2 : (2 ≤ sizeLine) = True := by simp [sizeLine]
theorem sz_3 : (3 ≤ sizeLine) = True := by simp [sizeLine]
theorem sz_4 : (4 ≤ sizeLine) = True := by simp [sizeLine]
theorem sz_5 : (5 ≤ sizeLine) = True := by simp [sizeLine]
theorem sz_6 : (6 ≤ sizeLine) = True := by simp [sizeLine]
theorem sz_7 : (7 ≤ sizeLine) = True := by simp [sizeLine]
theorem sz_8 : (8 ≤ sizeLine) = True := by simp [sizeLine]
theorem wipe_nil : wipeE ρ [] = ρ := (rfl)
theorem wipe_cons {vs : List Nat} : wipeE ρ (i :: vs) = (wipeE ρ vs).set i none := (rfl)
theorem it_tup : itemsD (.tup ds) = some ds := (rfl)
theorem it_lst : itemsD (.lst ds) = some ds := (rfl)
theorem rng_1 (h : -(2 ^ 62) ≤ b ∧ b < 2 ^ 62) : rngD [.int b] = some (rng 0 b.toNat) := if_pos h
theorem rng_2 (h : -(2 ^ 62) ≤ a ∧ a < 2 ^ 62 ∧ -(2 ^ 62) ≤ b ∧ b < 2 ^ 62) : rngD [.int a, .int b] = some (rng a (b - a).toNat) := if_pos h
theorem c_lt : cmpO C .Lt (.int a) (.int b) ρ = .ok (decide (a < b)) ρ := (rfl)
theorem c_le : cmpO C .LtE (.int a) (.int b) ρ = .ok (decide (a ≤ b)) ρ := (rfl)
theorem c_gt : cmpO C .Gt (.int a) (.int b) ρ = .ok (decide (b < a)) ρ := (rfl)
theorem c_ge : cmpO C .GtE (.int a) (.int b) ρ = .ok (decide (b ≤ a)) ρ := (rfl)
theorem c_eqI : cmpO C .Eq (.int a) (.int b) ρ = .ok (decide (a = b)) ρ := (rfl)
theorem c_neI : cmpO C .NotEq (.int a) (.int b) ρ = .ok (!decide (a = b)) ρ := (rfl)
theorem c_eqB : cmpO C .Eq (.bl k) (.bl l) ρ = .ok (decide (k = l)) ρ := (rfl)
theorem c_isN : cmpO C .Is x .non ρ = .ok x.isNon ρ := (rfl)
theorem c_notN : cmpO C .IsNot x .non ρ = .ok (!x.isNon) ρ := (rfl)
theorem t_bl : truD (.bl k) = some k := (rfl)
theorem t_int : truD (.int a) = some (a != 0) := (rfl)
theorem t_non : truD .non = some false := (rfl)
theorem t_tup : truD (.tup ds) = some (!ds.isEmpty) := (rfl)
theorem t_lst : truD (.lst ds) = some (!ds.isEmpty) := (rfl)
theorem x_tup : idxD (.tup ds) (.int a) = L2.atI ds a := (rfl)
theorem x_lst : idxD (.lst ds) (.int a) = L2.atI ds a := (rfl)
theorem x_scr : idxD (.scr ds) (.int a) = L2.atI ds a := (rfl)
theorem s_lst {lo hi : Option Int} : slcD (.lst ds) lo hi = some (.own (.lst (cutD ds lo hi))) := (rfl)
theorem s_scr {lo hi : Option Int} : slcD (.scr ds) lo hi = some (.own (.lst (cutD ds lo hi))) := (rfl)
theorem l_len1 : bltO C .len [.tup ds] ρ = .ok (.int ds.length) ρ := (rfl)
theorem l_len2 : bltO C .len [.lst ds] ρ = .ok (.int ds.length) ρ := (rfl)
theorem l_len3 : bltO C .len [.scr ds] ρ = .ok (.int ds.length) ρ := (rfl)
theorem l_int : bltO C .int [.int a] ρ = .ok (.int a) ρ := (rfl)
theorem l_abs : bltO C .abs [.int a] ρ = .ok (.int (if a < 0 then -a else a)) ρ := (rfl)
theorem l_tup : bltO C .tuple [.lst ds] ρ = .ok (.tup ds) ρ := (rfl)
theorem l_tup2 : bltO C .tuple [.tup ds] ρ = .ok (.tup ds) ρ := (rfl)
theorem l_list : bltO C .list [.lst ds] ρ = .ok (.own (.lst ds)) ρ := (rfl)
theorem l_list2 : bltO C .list [.tup ds] ρ = .ok (.own (.lst ds)) ρ := (rfl)
theorem l_max : bltO C .max [.int a, .int b] ρ = .ok (.int (if b > a then b else a)) ρ := (rfl)
theorem l_min : bltO C .min [.int a, .int b] ρ = .ok (.int (if b < a then b else a)) ρ := (rfl)
theorem l_isi : bltO C .isinstance [x, y] ρ = lift ((isiD x y).map D.bl) ρ := by cases x <;> rfl
theorem l_dm (h : 0 < b ∧ b < 1073741824) : bltO C .divmod [.int a, .int b] ρ = .ok (.tup [.int (a / b), .int (a % b)]) ρ := by
  show lift (if 0 < b ∧ b < 1073741824 then _ else _) ρ = _
  rw [if_pos h]; rfl
theorem fg {x : D} (h : fs.lookup f = some x) : fldG (.ins c fs) f ρ = .ok x ρ := by
  show lift (fs.lookup f) ρ = _
  rw [h]; rfl
theorem nil_out {ρ : En} : outs [] ρ = [] := by cases ρ <;> rfl
theorem out_int {o : Option D} : outs (.int a :: ds) (o :: ρ) = outs ds ρ := (rfl)
theorem out_bl {o : Option D} : outs (.bl k :: ds) (o :: ρ) = outs ds ρ := (rfl)
theorem out_tup {o : Option D} : outs (.tup es :: ds) (o :: ρ) = outs ds ρ := (rfl)
theorem out_lst {o : Option D} : outs (.lst es :: ds) (o :: ρ) = outs ds ρ := (rfl)
theorem out_scr {o : Option D} : outs (.scr es :: ds) (o :: ρ) = outs ds ρ := (rfl)
theorem out_ins {o : Option D} : outs (.ins c fs :: ds) (o :: ρ) = outs ds ρ := (rfl)
theorem out_non {o : Option D} : outs (.non :: ds) (o :: ρ) = outs ds ρ := (rfl)
theorem out_bor {m' : MV} : outs (.bor m :: ds) (some (.bor m') :: ρ) = [m'] := (rfl)
theorem nO : notO (.bl k) ρ = .ok (.bl !k) ρ := (rfl)
theorem tB : theB (.bl k) ρ = .ok k ρ := (rfl)
theorem tI : theI (.int a) ρ = .ok (some a) ρ := (rfl)
theorem calO_eq {f : FK} {as : List Ag} {df ds : List D} {l : Option Nat} {r : Out D (List MV)} (h1 : bindAg ρ as = some (ds, l)) (h2 : C f (ds ++ df) = r) : calO C f as df ρ = back ρ l r := by
  unfold calO
  rw [h1, ← h2]
theorem back_eq {l : Option Nat} {o : List MV} : back ρ l (.ok x o) = .ok x (putOut ρ l o) := (rfl)
theorem put_none {o : List MV} : putOut ρ none o = ρ := (rfl)
end

end Ev

end
section -- Rm
namespace Mx
theorem bit_lt {n A k : Nat} (hA : A < 2 ^ n) (h : k ∈ bitsL A) : k < n := bits_lt hA (mem_bitsL.mp h)
theorem bitsL_inj {A B : Nat} (h : ∀ k, k ∈ bitsL A ↔ k ∈ bitsL B) : A = B := by
  rw [← maskN_bitsL A, ← maskN_bitsL B, asc_ext (asc_bitsL A) (asc_bitsL B) h]
theorem mem_sumsM {n A B : Nat} (hn : 1 ≤ n) (hA : A < 2 ^ n) (hB : B < 2 ^ n) (k : Nat) : k ∈ bitsL (sumsN n A B) ↔ ∃ x ∈ bitsL A, ∃ y ∈ bitsL B, (x + y) % n = k := by
  have h := mem_sums (n := n) (a := bitsL A) (b := bitsL B) (fun k hk => bit_lt hA hk) (fun k hk => bit_lt hB hk) k
  rw [maskN_bitsL, maskN_bitsL] at h
  rw [h]
  constructor
  · rintro ⟨x, hx, y, hy, e, _⟩
    exact ⟨x, hx, y, hy, e⟩
  · rintro ⟨x, hx, y, hy, e⟩
    exact ⟨x, hx, y, hy, e, by rw [← e]; exact Nat.mod_lt _ hn⟩
theorem sumsN_lt (n A B : Nat) : sumsN n A B < 2 ^ n := wrapN_lt _ _
theorem sums_comm {n A B : Nat} (hn : 1 ≤ n) (hA : A < 2 ^ n) (hB : B < 2 ^ n) : sumsN n A B = sumsN n B A := bitsL_inj fun k => by
  rw [mem_sumsM hn hA hB, mem_sumsM hn hB hA]
  constructor
  · rintro ⟨x, hx, y, hy, e⟩
    exact ⟨y, hy, x, hx, by rw [Nat.add_comm]; exact e⟩
  · rintro ⟨x, hx, y, hy, e⟩
    exact ⟨y, hy, x, hx, by rw [Nat.add_comm]; exact e⟩
theorem sums_assoc {n A B C : Nat} (hn : 1 ≤ n) (hA : A < 2 ^ n) (hB : B < 2 ^ n) (hC : C < 2 ^ n) : sumsN n (sumsN n A B) C = sumsN n A (sumsN n B C) := bitsL_inj fun k => by
  rw [mem_sumsM hn (sumsN_lt _ _ _) hC, mem_sumsM hn hA (sumsN_lt _ _ _)]
  constructor
  · rintro ⟨x, hx, z, hz, e⟩
    obtain ⟨a, ha, b, hb, e1⟩ := (mem_sumsM hn hA hB x).mp hx
    refine ⟨a, ha, (b + z) % n, (mem_sumsM hn hB hC _).mpr ⟨b, hb, z, hz, rfl⟩, ?_⟩
    rw [← e, ← e1, Nat.add_mod_mod, Nat.mod_add_mod, Nat.add_assoc]
  · rintro ⟨a, ha, x, hx, e⟩
    obtain ⟨b, hb, z, hz, e1⟩ := (mem_sumsM hn hB hC x).mp hx
    refine ⟨(a + b) % n, (mem_sumsM hn hA hB _).mpr ⟨a, ha, b, hb, rfl⟩, z, hz, ?_⟩
    rw [← e, ← e1, Nat.add_mod_mod, Nat.mod_add_mod, Nat.add_assoc]
theorem inv_inv {n A : Nat} : (A ^^^ (1 <<< n - 1)) ^^^ (1 <<< n - 1) = A := by
  rw [Nat.xor_assoc, Nat.xor_self, Nat.xor_zero]
/-- multiplied -/
def scaleM (n m : Nat) (f : Int) : Nat := maskN ((bitsL m).map fun h : Nat => ((h : Int) * f % n).toNat)
theorem mem_scale {n m : Nat} {f : Int} (k : Nat) : k ∈ bitsL (scaleM n m f) ↔ ∃ x ∈ bitsL m, ((x : Int) * f % n).toNat = k := by
  unfold scaleM
  rw [mem_mask, List.mem_map]
theorem emod_toNat {n : Nat} (hn : 1 ≤ n) (i : Int) : (((i % n).toNat : Nat) : Int) = i % n := Int.toNat_of_nonneg (Int.emod_nonneg _ (by omega))
theorem emod_toNat_lt {n : Nat} (hn : 1 ≤ n) (i : Int) : (i % n).toNat < n := by
  have h0 : 0 ≤ i % (n : Int) := Int.emod_nonneg _ (by omega)
  have h1 : i % (n : Int) < n := Int.emod_lt_of_pos _ (by omega)
  omega
theorem scale_one {n A : Nat} (hn : 1 ≤ n) (hA : A < 2 ^ n) : scaleM n A 1 = A := bitsL_inj fun k => by
  rw [mem_scale]
  have key : ∀ x ∈ bitsL A, ((x : Int) * 1 % n).toNat = x := fun x hx => by
    have := bit_lt hA hx
    rw [Int.mul_one, Int.emod_eq_of_lt (by omega) (by omega), Int.toNat_natCast]
  constructor
  · rintro ⟨x, hx, e⟩
    rw [key x hx] at e
    exact e ▸ hx
  · intro h
    exact ⟨k, h, key k h⟩
theorem neg_neg' {n A : Nat} (hn : 1 ≤ n) (hA : A < 2 ^ n) : scaleM n (scaleM n A (-1)) (-1) = A := bitsL_inj fun k => by
  rw [mem_scale]
  have key : ∀ x ∈ bitsL A, (((((x : Int) * -1 % n).toNat : Nat) : Int) * -1 % n).toNat = x := fun x hx => by
    have h := bit_lt hA hx
    rw [emod_toNat hn]
    have e : (x : Int) * -1 % n * -1 % n = x := by
      rw [Int.mul_emod ((x : Int) * -1 % n), Int.emod_emod_of_dvd _ (Int.dvd_refl _), ← Int.mul_emod, show (x : Int) * -1 * -1 = x by omega, Int.emod_eq_of_lt (by omega) (by omega)]
    rw [e, Int.toNat_natCast]
  constructor
  · rintro ⟨y, hy, e⟩
    obtain ⟨x, hx, e1⟩ := mem_scale y |>.mp hy
    subst e1
    rw [key x hx] at e
    exact e ▸ hx
  · intro h
    exact ⟨_, (mem_scale _).mpr ⟨k, h, rfl⟩, key k h⟩
/-- moved -/
def movedM (n m : Nat) (b : Int) : Nat := turnN n m (b % n).toNat
theorem movedM_lt (n m : Nat) (b : Int) : movedM n m b < 2 ^ n := wrapN_lt _ _
theorem mem_moved {n A : Nat} (hn : 1 ≤ n) (hA : A < 2 ^ n) (f : Int) (k : Nat) : k ∈ bitsL (movedM n A f) ↔ ∃ x ∈ bitsL A, (((x : Int) + f) % n).toNat = k := by
  have h := mem_turn (n := n) (a := bitsL A) (b := (f % n).toNat) (fun k hk => bit_lt hA hk) (emod_toNat_lt hn f) k
  rw [maskN_bitsL] at h
  unfold movedM
  rw [h]
  have key : ∀ x : Nat, (((x : Int) + f) % n).toNat = (x + (f % n).toNat) % n := fun x => by
    have e : ((((x + (f % n).toNat) % n : Nat)) : Int) = ((x : Int) + f) % n := by
      rw [Int.natCast_emod, Int.natCast_add, emod_toNat hn, Int.add_emod_emod]
    rw [← e, Int.toNat_natCast]
  constructor
  · rintro ⟨x, hx, e, _⟩
    exact ⟨x, hx, by rw [key]; exact e⟩
  · rintro ⟨x, hx, e⟩
    rw [key] at e
    exact ⟨x, hx, e, by rw [← e]; exact Nat.mod_lt _ hn⟩
theorem moved_sum {n A : Nat} (hn : 1 ≤ n) (hA : A < 2 ^ n) (f : Int) : movedM n A f = sumsN n A (maskN [(f % n).toNat]) := bitsL_inj fun k => by
  have hB : maskN [(f % n).toNat] < 2 ^ n := maskN_lt fun k hk => by rw [List.mem_singleton.mp hk]; exact emod_toNat_lt hn f
  rw [mem_moved hn hA, mem_sumsM hn hA hB]
  have key : ∀ x : Nat, (((x : Int) + f) % n).toNat = (x + (f % n).toNat) % n := fun x => by
    have e : ((((x + (f % n).toNat) % n : Nat)) : Int) = ((x : Int) + f) % n := by
      rw [Int.natCast_emod, Int.natCast_add, emod_toNat hn, Int.add_emod_emod]
    rw [← e, Int.toNat_natCast]
  constructor
  · rintro ⟨x, hx, e⟩
    exact ⟨x, hx, _, (mem_mask _).mpr (List.mem_singleton.mpr rfl), by rw [← key]; exact e⟩
  · rintro ⟨x, hx, y, hy, e⟩
    rw [List.mem_singleton.mp ((mem_mask _).mp hy)] at e
    exact ⟨x, hx, by rw [key]; exact e⟩
/-! ### ascending lists of integers -/
theorem int_row {ms : List Int} {row : List Nat} (h1 : ms.Pairwise (· < ·)) (h2 : row.Pairwise (· < ·)) (h : ∀ k : Int, k ∈ ms ↔ ∃ z ∈ row, (z : Int) = k) : ms = row.map fun z : Nat => (z : Int) := by
  have h0 : ∀ k ∈ ms, 0 ≤ k := fun k hk => by
    obtain ⟨z, _, e⟩ := (h k).mp hk
    omega
  have e1 : ms.map Int.toNat = row := by
    refine asc_ext ?_ h2 fun k => ?_
    · rw [List.pairwise_map]
      refine h1.imp_of_mem fun {a b} ha hb hab => ?_
      have := h0 a ha
      have := h0 b hb
      omega
    · rw [List.mem_map]
      constructor
      · rintro ⟨x, hx, rfl⟩
        obtain ⟨z, hz, e⟩ := (h x).mp hx
        rw [← e, Int.toNat_natCast]
        exact hz
      · intro hk
        exact ⟨k, (h k).mpr ⟨k, hk, rfl⟩, Int.toNat_natCast k⟩
  rw [← e1, List.map_map]
  refine (List.map_id' ms).symm.trans (List.map_congr_left fun k hk => ?_)
  show k = ((k.toNat : Nat) : Int)
  rw [Int.toNat_of_nonneg (h0 k hk)]
theorem asc_of_sorted {ms L : List Int} (hp : ms.Perm L) (hs : ms.Pairwise (· ≤ ·)) (hn : L.Nodup) : ms.Pairwise (· < ·) := by
  have h1 : ms.Nodup := hp.nodup_iff.mpr hn
  refine (hs.and h1).imp fun {a b} ⟨h, h'⟩ => ?_
  omega
theorem nodup_lt {n : Nat} {ks : List Int} (h : ks.Nodup) (hb : ∀ k ∈ ks, 0 ≤ k ∧ k < n) : ks.length ≤ n := by
  have := h.length_le_of_subset (l₂ := (List.range n).map fun z : Nat => (z : Int)) fun k hk => by
    obtain ⟨h0, h1⟩ := hb k hk
    exact List.mem_map.mpr ⟨k.toNat, List.mem_range.mpr (by omega), Int.toNat_of_nonneg h0⟩
  rwa [List.length_map, List.length_range] at this
end Mx

end
section -- Ep
set_option maxRecDepth 100000
set_option maxHeartbeats 4000000
/-! Numbers that are not negative. -/
namespace Ev
open PySem PySem.Spec L2 Dx Mx
open PyProof.Rows hiding St
section
variable {C : Cal} {a b c : Nat} {ρ : En}
theorem n_or : intOp .BitOr (a : Int) (b : Int) = some ((a ||| b : Nat) : Int) := by
  show some (Builtin.bitOr _ _) = _
  rw [Bits.bitOr_pp (Int.natCast_nonneg _) (Int.natCast_nonneg _)]; rfl
theorem n_and : intOp .BitAnd (a : Int) (b : Int) = some ((a &&& b : Nat) : Int) := by
  show some (Builtin.bitAnd _ _) = _
  rw [bitAnd_pp (Int.natCast_nonneg _) (Int.natCast_nonneg _)]; rfl
theorem n_and1 : intOp .BitAnd (a : Int) 1 = some ((a &&& 1 : Nat) : Int) := n_and (b := 1)
theorem n_xor : intOp .BitXor (a : Int) (b : Int) = some ((a ^^^ b : Nat) : Int) := by
  show some (Builtin.bitXor _ _) = _
  rw [Bits.bitXor_pp (Int.natCast_nonneg _) (Int.natCast_nonneg _)]; rfl
theorem n_shr : intOp .RShift (a : Int) (b : Int) = some ((a >>> b : Nat) : Int) := by
  rw [i_shr (Int.natCast_nonneg _), Int.toNat_natCast, show ((a : Int) / 2 ^ b) = ((a >>> b : Nat) : Int) by rw [Nat.shiftRight_eq_div_pow, Int.natCast_ediv, Int.natCast_pow]; rfl]
theorem n_shl {n : Nat} (ha : a < 2 ^ n) (hb : n + b ≤ 134217728) : intOp .LShift (a : Int) (b : Int) = some ((a <<< b : Nat) : Int) := by
  rw [i_shl ⟨Int.natCast_nonneg _, by
    have h := shl_ok (i := (a : Int)) (j := b) (n := n) (by simpa using ha) hb
    exact h.2⟩, Int.toNat_natCast, show ((a : Int) * 2 ^ b) = ((a <<< b : Nat) : Int) by rw [Nat.shiftLeft_eq, Int.natCast_mul, Int.natCast_pow]; rfl]
theorem n_one (hb : b ≤ 1000000) : intOp .LShift 1 (b : Int) = some ((1 <<< b : Nat) : Int) := n_shl (a := 1) (n := 1) (by decide) (by omega)
theorem n_sub (h : b ≤ a) : intOp .Sub (a : Int) (b : Int) = some ((a - b : Nat) : Int) := by rw [i_sub, Int.ofNat_sub h]
theorem n_add : intOp .Add (a : Int) (b : Int) = some ((a + b : Nat) : Int) := by rw [i_add]; rfl
end
end Ev

end
section -- Sk08
set_option maxRecDepth 100000
set_option maxHeartbeats 1000000
namespace Lw
open PySem Ev Dx Mx
theorem t_wrapped : m.T (.f "wrapped") =   some
    { np := 2, ns := 2, mu := [false, false],
      body :=
        [IS.ret
            (some
              (IE.bin Operator.BitAnd (IE.bin Operator.BitOr (IE.var 1) (IE.bin Operator.RShift (IE.var 1) (IE.var 0)))
                (IE.cal (Str.ofString "whole_mask") [IA.of (IE.var 0)] [])))] } := by kernel_rfl
theorem t_whole : m.T (.f "whole_mask") =   some
    { np := 1, ns := 1, mu := [false],
      body :=
        [IS.ret
            (some (IE.bin Operator.Sub (IE.bin Operator.LShift (IE.cst (D.int 1)) (IE.var 0)) (IE.cst (D.int 1))))] } := by kernel_rfl
theorem t_scaled : m.T (.f "scaled") =   some
    { np := 3, ns := 4, mu := [false, false, false],
      body :=
        [IS.ret
            (some
              (IE.cal (Str.ofString "mask_of")
                [IA.of
                    (IE.lcm (IE.bin Operator.Mod (IE.bin Operator.Mult (IE.var 3) (IE.var 2)) (IE.var 0)) [3] (IG.nm 3)
                      (II.of (IE.cal (Str.ofString "hours_of") [IA.of (IE.var 1)] [])) none)]
                []))] } := by kernel_rfl
theorem t_sums : m.T (.f "sums") =   some
    { np := 3, ns := 5, mu := [false, false, false],
      body :=
        [IS.set 3 (IE.cst (D.int 0)),
          IS.for (IG.nm 4) (II.of (IE.cal (Str.ofString "hours_of") [IA.of (IE.var 2)] []))
            [IS.set 3 (IE.bin Operator.BitOr (IE.var 3) (IE.bin Operator.LShift (IE.var 1) (IE.var 4)))],
          IS.ret (some (IE.cal (Str.ofString "wrapped") [IA.of (IE.var 0), IA.of (IE.var 3)] []))] } := by kernel_rfl
theorem t_mask : m.T (.f "mask_of") =   some
    { np := 1, ns := 3, mu := [false],
      body :=
        [IS.set 1 (IE.cst (D.int 0)),
          IS.for (IG.nm 2) (II.of (IE.var 0))
            [IS.set 1 (IE.bin Operator.BitOr (IE.var 1) (IE.bin Operator.LShift (IE.cst (D.int 1)) (IE.var 2)))],
          IS.ret (some (IE.var 1))] } := by kernel_rfl
theorem t_hours : m.T (.f "hours_of") =   some
    { np := 1, ns := 2, mu := [false],
      body :=
        [IS.ret
            (some
              (IE.lcm (IE.var 1) [1] (IG.nm 1) (II.rng [IE.bme (IE.var 0) Bm.bitLength []])
                (some
                  (IT.of
                    (IE.bin Operator.BitAnd (IE.bin Operator.RShift (IE.var 0) (IE.var 1)) (IE.cst (D.int 1)))))))] } := by kernel_rfl
theorem t_ofmask : m.T (.f "of_mask") =   some
    { np := 2, ns := 2, mu := [false, false],
      body :=
        [IS.ret
            (some
              (IE.mak (Str.ofString "Hours")
                [IE.var 0, IE.blt Bf.tuple [IE.cal (Str.ofString "hours_of") [IA.of (IE.var 1)] []]] []))] } := by kernel_rfl
theorem t_isint : m.T (.f "is_integer") =   some
    { np := 1, ns := 1, mu := [false],
      body :=
        [IS.ret
            (some
              (IE.and (IE.blt Bf.isinstance [IE.var 0, IE.cst (D.ty "int")])
                (IE.not (IE.blt Bf.isinstance [IE.var 0, IE.cst (D.ty "bool")]))))] } := by kernel_rfl
theorem t_ishour : m.T (.f "is_hour") =   some
    { np := 2, ns := 2, mu := [false, false],
      body :=
        [IS.ret
            (some
              (IE.and (IE.cal (Str.ofString "is_integer") [IA.of (IE.var 1)] [])
                (IE.chn CmpOp.LtE CmpOp.Lt (IE.cst (D.int 0)) (IE.var 1) (IE.var 0))))] } := by kernel_rfl
theorem t_wrong : m.T (.f "wrong_index") =   some
    { np := 2, ns := 5, mu := [false, false],
      body :=
        [IS.set 2 (IE.una UnaryOp.USub (IE.cst (D.int 1))),
          IS.for (IG.tp [IG.nm 3, IG.nm 4]) (II.enu (IE.var 1))
            [IS.ite
                (IT.or (IT.not (IT.of (IE.cal (Str.ofString "is_hour") [IA.of (IE.var 0), IA.of (IE.var 4)] [])))
                  (IT.cmp CmpOp.LtE (IE.var 4) (IE.var 2)))
                [IS.ret (some (IE.var 3))] [],
              IS.set 2 (IE.var 4)],
          IS.ret (some (IE.cst D.non))] } := by kernel_rfl
theorem t_chkint : m.T (.f "check_integer") =   some
    { np := 1, ns := 1, mu := [false],
      body := [IS.ite (IT.not (IT.of (IE.cal (Str.ofString "is_integer") [IA.of (IE.var 0)] []))) [IS.stk] []] } := by kernel_rfl
theorem t_chkclk : m.T (.f "check_clock") =   some
    { np := 2, ns := 2, mu := [false, false],
      body :=
        [IS.ite
            (IT.or (IT.not (IT.of (IE.cal (Str.ofString "is_integer") [IA.of (IE.var 0)] [])))
              (IT.cmp CmpOp.Lt (IE.var 0) (IE.cst (D.int 1))))
            [IS.stk] [],
          IS.ite (IT.cmp CmpOp.Gt (IE.var 0) (IE.var 1)) [IS.stk] []] } := by kernel_rfl
theorem t_chkhrs : m.T (.f "check_hours") =   some
    { np := 2, ns := 3, mu := [false, false],
      body :=
        [IS.ite (IT.not (IT.of (IE.blt Bf.isinstance [IE.var 1, IE.cst (D.ty "tuple")]))) [IS.stk] [],
          IS.set 2 (IE.cal (Str.ofString "wrong_index") [IA.of (IE.var 0), IA.of (IE.var 1)] []),
          IS.ite (IT.cmp CmpOp.IsNot (IE.var 2) (IE.cst D.non)) [IS.stk] []] } := by kernel_rfl
theorem t_chk1 : m.T (.f "check_one") =   some
    { np := 1, ns := 1, mu := [false],
      body :=
        [IS.ite (IT.not (IT.of (IE.blt Bf.isinstance [IE.var 0, IE.cst (D.gl (Str.ofString "Hours"))]))) [IS.stk] []] } := by kernel_rfl
theorem t_chk2 : m.T (.f "check_other") =   some
    { np := 2, ns := 2, mu := [false, false],
      body :=
        [IS.expr (IE.cal (Str.ofString "check_one") [IA.of (IE.var 1)] []),
          IS.ite (IT.cmp CmpOp.NotEq (IE.prp (IE.var 1) (Str.ofString "clock")) (IE.var 0)) [IS.stk] []] } := by kernel_rfl
theorem t_init : m.T (.i "Hours") =   some
    { np := 3, ns := 3, mu := [false, false, false],
      body :=
        [IS.expr (IE.cal (Str.ofString "check_clock") [IA.of (IE.var 1), IA.of (IE.cst (D.int 240))] []),
          IS.expr (IE.cal (Str.ofString "check_hours") [IA.of (IE.var 1), IA.of (IE.var 2)] []),
          IS.asg (IG.att 0 (Str.ofString "Hours") (Str.ofString "_clock")) (IE.var 1),
          IS.asg (IG.att 0 (Str.ofString "Hours") (Str.ofString "_hours")) (IE.var 2),
          IS.asg (IG.att 0 (Str.ofString "Hours") (Str.ofString "_mask"))
            (IE.cal (Str.ofString "mask_of") [IA.of (IE.var 2)] [])] } := by kernel_rfl
def natsD (hs : List Nat) : List D := hs.map fun h : Nat => D.int (h : Int)
abbrev RT := Ev.run m.T
theorem pos_of {n k : Nat} (h : k + 1 ≤ n) : ∃ j, n = j + 1 ∧ k ≤ j := ⟨n - 1, by omega, by omega⟩
theorem s_whole {n c : Nat} (hn : 1 ≤ n) (hc : c ≤ 240) : RT n (.f "whole_mask") [.int c] = .ok (.int ((1 <<< c - 1 : Nat) : Int)) [] := by
  obtain ⟨j, rfl, _⟩ := pos_of hn
  rw [RT, run_of t_whole rfl]
  have h1 : 1 ≤ 1 <<< c := by rw [Nat.shiftLeft_eq]; have := Nat.two_pow_pos c; omega
  have h : intOp .Sub ((1 <<< c : Nat) : Int) 1 = some ((1 <<< c - 1 : Nat) : Int) := n_sub (b := 1) h1
  (simp -dsimp only [evB, evS, evE, evT, evL, evA, evA1, evI, evP, evC, asgG, asgL, stoD, bind_eq, it_tup, it_lst, Nat.reduceLT, sz_0, sz_1, sz_2, sz_3, sz_4, sz_5, sz_6, sz_7, sz_8, wipe_nil, wipe_cons, Nat.zero_lt_succ, Nat.not_lt_zero, decide_true, decide_false, lift_some, thenF_nx, thenF_ret, back_none', fin_ret, fin_nx, startN,
  getVar_eq, gv_own, gv_int, gv_bl, gv_str, gv_non, gv_tup, gv_lst, gv_scr, gv_ins, keptAt_eq, kp_some, mi_own, mi_bor, mi_int, mi_bl, mi_str, mi_non, mi_tup, mi_lst, mi_scr, mi_ins, mvAt_eq, mv_some, mv_own, mv_bor, mv_int, mv_bl, mv_str, mv_non, mv_tup, mv_lst, mv_scr, mv_ins,
  fz_own, fz_l, fz_i, fzI, fz_bl, fz_str, fz_non, fzT, fz_lst, fz_scr, fz_ins, fz_set, fz_ty, fz_gl, b_int, i_add, u_neg, u_inv, c_lt, c_le, c_gt, c_ge, c_eqI, c_neI, c_eqB, c_isN, c_notN, t_bl, t_int, t_non, t_tup, t_lst, x_tup, x_lst, x_scr, s_lst, s_scr,
  l_len1, l_len2, l_len3, l_int, l_abs, l_tup, l_tup2, l_list, l_list2, l_max, l_min, l_isi, nil_out, out_int, out_bl, out_tup, out_lst, out_scr, out_ins, out_non, out_bor, nO, tB, tI, back_eq, put_none,
  List.map_cons, List.map_nil, List.length_cons, List.length_nil, List.replicate, List.getElem?_cons_zero, List.getElem?_cons_succ, List.append_nil, List.nil_append, List.cons_append, List.set_cons_zero, List.set_cons_succ, Option.map_some, Option.isSome_some, Option.isSome_none, if_true, if_false, ite_true, ite_false, Bool.false_eq_true, reduceCtorEq, Nat.reduceAdd, Nat.reduceSub, n_one (b := c) (by omega), h] <;> try dsimp only [Dx.D.fz, Dx.MV.fz])
theorem s_wrapped {n c x : Nat} (hn : 2 ≤ n) (hc : c ≤ 240) : RT n (.f "wrapped") [.int c, .int x] = .ok (.int (wrapN c x : Nat)) [] := by
  obtain ⟨j, rfl, hj⟩ := pos_of hn
  rw [RT, run_of t_wrapped rfl]
  (simp -dsimp only [evB, evS, evE, evT, evL, evA, evA1, evI, evP, evC, asgG, asgL, stoD, bind_eq, it_tup, it_lst, Nat.reduceLT, sz_0, sz_1, sz_2, sz_3, sz_4, sz_5, sz_6, sz_7, sz_8, wipe_nil, wipe_cons, Nat.zero_lt_succ, Nat.not_lt_zero, decide_true, decide_false, lift_some, thenF_nx, thenF_ret, back_none', fin_ret, fin_nx, startN,
  getVar_eq, gv_own, gv_int, gv_bl, gv_str, gv_non, gv_tup, gv_lst, gv_scr, gv_ins, keptAt_eq, kp_some, mi_own, mi_bor, mi_int, mi_bl, mi_str, mi_non, mi_tup, mi_lst, mi_scr, mi_ins, mvAt_eq, mv_some, mv_own, mv_bor, mv_int, mv_bl, mv_str, mv_non, mv_tup, mv_lst, mv_scr, mv_ins,
  fz_own, fz_l, fz_i, fzI, fz_bl, fz_str, fz_non, fzT, fz_lst, fz_scr, fz_ins, fz_set, fz_ty, fz_gl, b_int, i_add, u_neg, u_inv, c_lt, c_le, c_gt, c_ge, c_eqI, c_neI, c_eqB, c_isN, c_notN, t_bl, t_int, t_non, t_tup, t_lst, x_tup, x_lst, x_scr, s_lst, s_scr,
  l_len1, l_len2, l_len3, l_int, l_abs, l_tup, l_tup2, l_list, l_list2, l_max, l_min, l_isi, nil_out, out_int, out_bl, out_tup, out_lst, out_scr, out_ins, out_non, out_bor, nO, tB, tI, back_eq, put_none,
  List.map_cons, List.map_nil, List.length_cons, List.length_nil, List.replicate, List.getElem?_cons_zero, List.getElem?_cons_succ, List.append_nil, List.nil_append, List.cons_append, List.set_cons_zero, List.set_cons_succ, Option.map_some, Option.isSome_some, Option.isSome_none, if_true, if_false, ite_true, ite_false, Bool.false_eq_true, reduceCtorEq, Nat.reduceAdd, Nat.reduceSub, n_shr, n_or] <;> try dsimp only [Dx.D.fz, Dx.MV.fz])
  rw [calO_eq (bag_d bag_nil) (s_whole hj hc)]
  (simp -dsimp only [evB, evS, evE, evT, evL, evA, evA1, evI, evP, evC, asgG, asgL, stoD, bind_eq, it_tup, it_lst, Nat.reduceLT, sz_0, sz_1, sz_2, sz_3, sz_4, sz_5, sz_6, sz_7, sz_8, wipe_nil, wipe_cons, Nat.zero_lt_succ, Nat.not_lt_zero, decide_true, decide_false, lift_some, thenF_nx, thenF_ret, back_none', fin_ret, fin_nx, startN,
  getVar_eq, gv_own, gv_int, gv_bl, gv_str, gv_non, gv_tup, gv_lst, gv_scr, gv_ins, keptAt_eq, kp_some, mi_own, mi_bor, mi_int, mi_bl, mi_str, mi_non, mi_tup, mi_lst, mi_scr, mi_ins, mvAt_eq, mv_some, mv_own, mv_bor, mv_int, mv_bl, mv_str, mv_non, mv_tup, mv_lst, mv_scr, mv_ins,
  fz_own, fz_l, fz_i, fzI, fz_bl, fz_str, fz_non, fzT, fz_lst, fz_scr, fz_ins, fz_set, fz_ty, fz_gl, b_int, i_add, u_neg, u_inv, c_lt, c_le, c_gt, c_ge, c_eqI, c_neI, c_eqB, c_isN, c_notN, t_bl, t_int, t_non, t_tup, t_lst, x_tup, x_lst, x_scr, s_lst, s_scr,
  l_len1, l_len2, l_len3, l_int, l_abs, l_tup, l_tup2, l_list, l_list2, l_max, l_min, l_isi, nil_out, out_int, out_bl, out_tup, out_lst, out_scr, out_ins, out_non, out_bor, nO, tB, tI, back_eq, put_none,
  List.map_cons, List.map_nil, List.length_cons, List.length_nil, List.replicate, List.getElem?_cons_zero, List.getElem?_cons_succ, List.append_nil, List.nil_append, List.cons_append, List.set_cons_zero, List.set_cons_succ, Option.map_some, Option.isSome_some, Option.isSome_none, if_true, if_false, ite_true, ite_false, Bool.false_eq_true, reduceCtorEq, Nat.reduceAdd, Nat.reduceSub, n_and] <;> try dsimp only [Dx.D.fz, Dx.MV.fz])
  rfl
theorem forD_nats {step : D → En → Out Ev.Flow En} (e : Nat → Option D → En) (g : Nat → Nat → Nat) : ∀ {hs : List Nat} {a : Nat} {o : Option D}, (∀ a o k, k ∈ hs → step (.int (k : Int)) (e a o) = .ok .nx (e (g a k) (some (.int (k : Int))))) → ∃ o', forD step (natsD hs) (e a o) = .ok .nx (e (hs.foldl g a) o')
  | [], a, o, _ => ⟨o, rfl⟩
  | k :: ks, a, o, h => by
    obtain ⟨o', ih⟩ := forD_nats e g (hs := ks) (a := g a k) (o := some (.int (k : Int))) fun a o k hk => h a o k (List.mem_cons_of_mem _ hk)
    refine ⟨o', ?_⟩
    show forD step (.int (k : Int) :: natsD ks) _ = _
    unfold forD
    rw [h a o k (List.mem_cons_self ..)]
    exact ih
theorem fin_for {ds : List D} {r : Out D (List MV)} {step : D → En → Out Ev.Flow En} {k : En → Out Ev.Flow En} (e : Nat → Option D → En) (g : Nat → Nat → Nat) {hs : List Nat} (a : Nat) (o : Option D)
    (h : ∀ a o k, k ∈ hs → step (.int (k : Int)) (e a o) = .ok .nx (e (g a k) (some (.int (k : Int))))) (q : ∀ o', fin ds (k (e (hs.foldl g a) o')) = r) : fin ds (thenF (forD step (natsD hs) (e a o)) k) = r := by
  obtain ⟨o', h1⟩ := forD_nats e g (a := a) (o := o) h
  rw [h1]
  exact q o'
theorem s_mask {n : Nat} {hs : List Nat} (hn : 1 ≤ n) (hb : ∀ k, k ∈ hs → k < 1000) : RT n (.f "mask_of") [.tup (natsD hs)] = .ok (.int (maskN hs : Nat)) [] := by
  obtain ⟨j, rfl, hj⟩ := pos_of hn
  rw [RT, run_of t_mask rfl]
  (simp -dsimp only [evB, evS, evE, evT, evL, evA, evA1, evI, evP, evC, asgG, asgL, stoD, bind_eq, it_tup, it_lst, Nat.reduceLT, sz_0, sz_1, sz_2, sz_3, sz_4, sz_5, sz_6, sz_7, sz_8, wipe_nil, wipe_cons, Nat.zero_lt_succ, Nat.not_lt_zero, decide_true, decide_false, lift_some, thenF_nx, thenF_ret, back_none', fin_ret, fin_nx, startN,
  getVar_eq, gv_own, gv_int, gv_bl, gv_str, gv_non, gv_tup, gv_lst, gv_scr, gv_ins, keptAt_eq, kp_some, mi_own, mi_bor, mi_int, mi_bl, mi_str, mi_non, mi_tup, mi_lst, mi_scr, mi_ins, mvAt_eq, mv_some, mv_own, mv_bor, mv_int, mv_bl, mv_str, mv_non, mv_tup, mv_lst, mv_scr, mv_ins,
  fz_own, fz_l, fz_i, fzI, fz_bl, fz_str, fz_non, fzT, fz_lst, fz_scr, fz_ins, fz_set, fz_ty, fz_gl, b_int, i_add, u_neg, u_inv, c_lt, c_le, c_gt, c_ge, c_eqI, c_neI, c_eqB, c_isN, c_notN, t_bl, t_int, t_non, t_tup, t_lst, x_tup, x_lst, x_scr, s_lst, s_scr,
  l_len1, l_len2, l_len3, l_int, l_abs, l_tup, l_tup2, l_list, l_list2, l_max, l_min, l_isi, nil_out, out_int, out_bl, out_tup, out_lst, out_scr, out_ins, out_non, out_bor, nO, tB, tI, back_eq, put_none,
  List.map_cons, List.map_nil, List.length_cons, List.length_nil, List.replicate, List.getElem?_cons_zero, List.getElem?_cons_succ, List.append_nil, List.nil_append, List.cons_append, List.set_cons_zero, List.set_cons_succ, Option.map_some, Option.isSome_some, Option.isSome_none, if_true, if_false, ite_true, ite_false, Bool.false_eq_true, reduceCtorEq, Nat.reduceAdd, Nat.reduceSub] <;> try dsimp only [Dx.D.fz, Dx.MV.fz])
  refine fin_for (fun a o => [some (.tup (natsD hs)), some (.int (a : Int)), o]) (fun m h => m ||| 1 <<< h) 0 none (fun a o k hk => ?_) fun o' => ?_
  · have := hb k hk
    (simp -dsimp only [evB, evS, evE, evT, evL, evA, evA1, evI, evP, evC, asgG, asgL, stoD, bind_eq, it_tup, it_lst, Nat.reduceLT, sz_0, sz_1, sz_2, sz_3, sz_4, sz_5, sz_6, sz_7, sz_8, wipe_nil, wipe_cons, Nat.zero_lt_succ, Nat.not_lt_zero, decide_true, decide_false, lift_some, thenF_nx, thenF_ret, back_none', fin_ret, fin_nx, startN,
  getVar_eq, gv_own, gv_int, gv_bl, gv_str, gv_non, gv_tup, gv_lst, gv_scr, gv_ins, keptAt_eq, kp_some, mi_own, mi_bor, mi_int, mi_bl, mi_str, mi_non, mi_tup, mi_lst, mi_scr, mi_ins, mvAt_eq, mv_some, mv_own, mv_bor, mv_int, mv_bl, mv_str, mv_non, mv_tup, mv_lst, mv_scr, mv_ins,
  fz_own, fz_l, fz_i, fzI, fz_bl, fz_str, fz_non, fzT, fz_lst, fz_scr, fz_ins, fz_set, fz_ty, fz_gl, b_int, i_add, u_neg, u_inv, c_lt, c_le, c_gt, c_ge, c_eqI, c_neI, c_eqB, c_isN, c_notN, t_bl, t_int, t_non, t_tup, t_lst, x_tup, x_lst, x_scr, s_lst, s_scr,
  l_len1, l_len2, l_len3, l_int, l_abs, l_tup, l_tup2, l_list, l_list2, l_max, l_min, l_isi, nil_out, out_int, out_bl, out_tup, out_lst, out_scr, out_ins, out_non, out_bor, nO, tB, tI, back_eq, put_none,
  List.map_cons, List.map_nil, List.length_cons, List.length_nil, List.replicate, List.getElem?_cons_zero, List.getElem?_cons_succ, List.append_nil, List.nil_append, List.cons_append, List.set_cons_zero, List.set_cons_succ, Option.map_some, Option.isSome_some, Option.isSome_none, if_true, if_false, ite_true, ite_false, Bool.false_eq_true, reduceCtorEq, Nat.reduceAdd, Nat.reduceSub, n_one (b := k) (by omega), n_or] <;> try dsimp only [Dx.D.fz, Dx.MV.fz])
  · (simp -dsimp only [evB, evS, evE, evT, evL, evA, evA1, evI, evP, evC, asgG, asgL, stoD, bind_eq, it_tup, it_lst, Nat.reduceLT, sz_0, sz_1, sz_2, sz_3, sz_4, sz_5, sz_6, sz_7, sz_8, wipe_nil, wipe_cons, Nat.zero_lt_succ, Nat.not_lt_zero, decide_true, decide_false, lift_some, thenF_nx, thenF_ret, back_none', fin_ret, fin_nx, startN,
  getVar_eq, gv_own, gv_int, gv_bl, gv_str, gv_non, gv_tup, gv_lst, gv_scr, gv_ins, keptAt_eq, kp_some, mi_own, mi_bor, mi_int, mi_bl, mi_str, mi_non, mi_tup, mi_lst, mi_scr, mi_ins, mvAt_eq, mv_some, mv_own, mv_bor, mv_int, mv_bl, mv_str, mv_non, mv_tup, mv_lst, mv_scr, mv_ins,
  fz_own, fz_l, fz_i, fzI, fz_bl, fz_str, fz_non, fzT, fz_lst, fz_scr, fz_ins, fz_set, fz_ty, fz_gl, b_int, i_add, u_neg, u_inv, c_lt, c_le, c_gt, c_ge, c_eqI, c_neI, c_eqB, c_isN, c_notN, t_bl, t_int, t_non, t_tup, t_lst, x_tup, x_lst, x_scr, s_lst, s_scr,
  l_len1, l_len2, l_len3, l_int, l_abs, l_tup, l_tup2, l_list, l_list2, l_max, l_min, l_isi, nil_out, out_int, out_bl, out_tup, out_lst, out_scr, out_ins, out_non, out_bor, nO, tB, tI, back_eq, put_none,
  List.map_cons, List.map_nil, List.length_cons, List.length_nil, List.replicate, List.getElem?_cons_zero, List.getElem?_cons_succ, List.append_nil, List.nil_append, List.cons_append, List.set_cons_zero, List.set_cons_succ, Option.map_some, Option.isSome_some, Option.isSome_none, if_true, if_false, ite_true, ite_false, Bool.false_eq_true, reduceCtorEq, Nat.reduceAdd, Nat.reduceSub] <;> try dsimp only [Dx.D.fz, Dx.MV.fz])
    rfl
theorem lcD_nats {step : D → En → Out (Option D) En} {ρ : En} (p : Nat → Bool) (f : Nat → D) : ∀ {hs : List Nat}, (∀ k, k ∈ hs → step (.int (k : Int)) ρ = .ok (if p k = true then some (f k) else none) ρ) → lcD step (natsD hs) ρ = .ok ((hs.filter p).map f) ρ
  | [], _ => rfl
  | k :: ks, h => by
    show lcD step (.int (k : Int) :: natsD ks) ρ = _
    unfold lcD
    rw [h k (List.mem_cons_self ..), bind_eq, lcD_nats p f (hs := ks) fun y hy => h y (List.mem_cons_of_mem _ hy), bind_eq, List.filter_cons]
    cases p k <;> rfl
theorem rng_nats {b : Nat} : rng 0 b = natsD (List.range b) := by
  unfold rng natsD
  refine List.map_congr_left fun k _ => ?_
  rw [Int.zero_add]
theorem bits_range (x : Nat) : (List.range (Builtin.Int.intBits (x : Int))).filter (fun k => x.testBit k) = bitsL x := by
  unfold bitsL Builtin.Int.intBits
  by_cases h : x = 0
  · subst h; decide
  · have : ((x : Int) == 0) = false := by
      rw [beq_eq_false_iff_ne]; omega
    rw [this]
    simp
theorem l_bits {x : Int} : metD .bitLength (.int x) [] = some (.int (Builtin.Int.intBits x : Nat)) := rfl

theorem bit_dec (m i : Nat) : decide ((m >>> i &&& 1) ≠ 0) = m.testBit i := by
  show decide _ = ((1 &&& (m >>> i)) != 0)
  rw [Nat.and_comm]
  by_cases h : (1 &&& m >>> i) = 0
  · rw [h]; rfl
  · rw [decide_eq_true h]; exact (bne_iff_ne.mpr h).symm
theorem s_hours {n x e : Nat} (hn : 1 ≤ n) (he : e ≤ 1000) (hx : x < 2 ^ e) : RT n (.f "hours_of") [.int x] = .ok (.own (.lst (natsD (bitsL x)))) [] := by
  obtain ⟨j, rfl, hj⟩ := pos_of hn
  have hb : Builtin.Int.intBits (x : Int) ≤ 1000 := Nat.le_trans (PyProof.Rows.intBits_le (by simpa using hx)) he
  rw [RT, run_of t_hours rfl]
  (simp -dsimp only [evB, evS, evE, evT, evL, evA, evA1, evI, evP, evC, asgG, asgL, stoD, bind_eq, it_tup, it_lst, Nat.reduceLT, sz_0, sz_1, sz_2, sz_3, sz_4, sz_5, sz_6, sz_7, sz_8, wipe_nil, wipe_cons, Nat.zero_lt_succ, Nat.not_lt_zero, decide_true, decide_false, lift_some, thenF_nx, thenF_ret, back_none', fin_ret, fin_nx, startN,
  getVar_eq, gv_own, gv_int, gv_bl, gv_str, gv_non, gv_tup, gv_lst, gv_scr, gv_ins, keptAt_eq, kp_some, mi_own, mi_bor, mi_int, mi_bl, mi_str, mi_non, mi_tup, mi_lst, mi_scr, mi_ins, mvAt_eq, mv_some, mv_own, mv_bor, mv_int, mv_bl, mv_str, mv_non, mv_tup, mv_lst, mv_scr, mv_ins,
  fz_own, fz_l, fz_i, fzI, fz_bl, fz_str, fz_non, fzT, fz_lst, fz_scr, fz_ins, fz_set, fz_ty, fz_gl, b_int, i_add, u_neg, u_inv, c_lt, c_le, c_gt, c_ge, c_eqI, c_neI, c_eqB, c_isN, c_notN, t_bl, t_int, t_non, t_tup, t_lst, x_tup, x_lst, x_scr, s_lst, s_scr,
  l_len1, l_len2, l_len3, l_int, l_abs, l_tup, l_tup2, l_list, l_list2, l_max, l_min, l_isi, nil_out, out_int, out_bl, out_tup, out_lst, out_scr, out_ins, out_non, out_bor, nO, tB, tI, back_eq, put_none,
  List.map_cons, List.map_nil, List.length_cons, List.length_nil, List.replicate, List.getElem?_cons_zero, List.getElem?_cons_succ, List.append_nil, List.nil_append, List.cons_append, List.set_cons_zero, List.set_cons_succ, Option.map_some, Option.isSome_some, Option.isSome_none, if_true, if_false, ite_true, ite_false, Bool.false_eq_true, reduceCtorEq, Nat.reduceAdd, Nat.reduceSub, l_bits, rng_1 (b := ((Builtin.Int.intBits (x : Int) : Nat) : Int)) (show -(2 ^ 62) ≤ ((Builtin.Int.intBits (x : Int) : Nat) : Int) ∧ ((Builtin.Int.intBits (x : Int) : Nat) : Int) < 2 ^ 62 by omega), Int.toNat_natCast, rng_nats] <;> try dsimp only [Dx.D.fz, Dx.MV.fz])
  rw [if_pos (by unfold natsD sizeLine; simp; omega), lcD_nats (fun k => x.testBit k) (fun k => D.int (k : Int)) (fun k hk => ?_)]
  · (simp -dsimp only [evB, evS, evE, evT, evL, evA, evA1, evI, evP, evC, asgG, asgL, stoD, bind_eq, it_tup, it_lst, Nat.reduceLT, sz_0, sz_1, sz_2, sz_3, sz_4, sz_5, sz_6, sz_7, sz_8, wipe_nil, wipe_cons, Nat.zero_lt_succ, Nat.not_lt_zero, decide_true, decide_false, lift_some, thenF_nx, thenF_ret, back_none', fin_ret, fin_nx, startN,
  getVar_eq, gv_own, gv_int, gv_bl, gv_str, gv_non, gv_tup, gv_lst, gv_scr, gv_ins, keptAt_eq, kp_some, mi_own, mi_bor, mi_int, mi_bl, mi_str, mi_non, mi_tup, mi_lst, mi_scr, mi_ins, mvAt_eq, mv_some, mv_own, mv_bor, mv_int, mv_bl, mv_str, mv_non, mv_tup, mv_lst, mv_scr, mv_ins,
  fz_own, fz_l, fz_i, fzI, fz_bl, fz_str, fz_non, fzT, fz_lst, fz_scr, fz_ins, fz_set, fz_ty, fz_gl, b_int, i_add, u_neg, u_inv, c_lt, c_le, c_gt, c_ge, c_eqI, c_neI, c_eqB, c_isN, c_notN, t_bl, t_int, t_non, t_tup, t_lst, x_tup, x_lst, x_scr, s_lst, s_scr,
  l_len1, l_len2, l_len3, l_int, l_abs, l_tup, l_tup2, l_list, l_list2, l_max, l_min, l_isi, nil_out, out_int, out_bl, out_tup, out_lst, out_scr, out_ins, out_non, out_bor, nO, tB, tI, back_eq, put_none,
  List.map_cons, List.map_nil, List.length_cons, List.length_nil, List.replicate, List.getElem?_cons_zero, List.getElem?_cons_succ, List.append_nil, List.nil_append, List.cons_append, List.set_cons_zero, List.set_cons_succ, Option.map_some, Option.isSome_some, Option.isSome_none, if_true, if_false, ite_true, ite_false, Bool.false_eq_true, reduceCtorEq, Nat.reduceAdd, Nat.reduceSub, bits_range] <;> try dsimp only [Dx.D.fz, Dx.MV.fz])
    rfl
  · (simp -dsimp only [evB, evS, evE, evT, evL, evA, evA1, evI, evP, evC, asgG, asgL, stoD, bind_eq, it_tup, it_lst, Nat.reduceLT, sz_0, sz_1, sz_2, sz_3, sz_4, sz_5, sz_6, sz_7, sz_8, wipe_nil, wipe_cons, Nat.zero_lt_succ, Nat.not_lt_zero, decide_true, decide_false, lift_some, thenF_nx, thenF_ret, back_none', fin_ret, fin_nx, startN,
  getVar_eq, gv_own, gv_int, gv_bl, gv_str, gv_non, gv_tup, gv_lst, gv_scr, gv_ins, keptAt_eq, kp_some, mi_own, mi_bor, mi_int, mi_bl, mi_str, mi_non, mi_tup, mi_lst, mi_scr, mi_ins, mvAt_eq, mv_some, mv_own, mv_bor, mv_int, mv_bl, mv_str, mv_non, mv_tup, mv_lst, mv_scr, mv_ins,
  fz_own, fz_l, fz_i, fzI, fz_bl, fz_str, fz_non, fzT, fz_lst, fz_scr, fz_ins, fz_set, fz_ty, fz_gl, b_int, i_add, u_neg, u_inv, c_lt, c_le, c_gt, c_ge, c_eqI, c_neI, c_eqB, c_isN, c_notN, t_bl, t_int, t_non, t_tup, t_lst, x_tup, x_lst, x_scr, s_lst, s_scr,
  l_len1, l_len2, l_len3, l_int, l_abs, l_tup, l_tup2, l_list, l_list2, l_max, l_min, l_isi, nil_out, out_int, out_bl, out_tup, out_lst, out_scr, out_ins, out_non, out_bor, nO, tB, tI, back_eq, put_none,
  List.map_cons, List.map_nil, List.length_cons, List.length_nil, List.replicate, List.getElem?_cons_zero, List.getElem?_cons_succ, List.append_nil, List.nil_append, List.cons_append, List.set_cons_zero, List.set_cons_succ, Option.map_some, Option.isSome_some, Option.isSome_none, if_true, if_false, ite_true, ite_false, Bool.false_eq_true, reduceCtorEq, Nat.reduceAdd, Nat.reduceSub, n_shr, n_and1] <;> try dsimp only [Dx.D.fz, Dx.MV.fz])
    rw [show (((x >>> k &&& 1 : Nat) : Int) != 0) = x.testBit k by
      rw [← bit_dec]
      by_cases h : (x >>> k &&& 1) = 0
      · rw [h]; rfl
      · rw [decide_eq_true h]
        rw [bne_iff_ne]
        omega]
    cases x.testBit k <;> rfl

theorem isi_int {a : Int} : isiD (.int a) (.ty "int") = some true := by
  show (L2.kitB "int" "int") = _
  decide
theorem isi_bool {a : Int} : isiD (.int a) (.ty "bool") = some false := by
  show (L2.kitB "int" "bool") = _
  decide
theorem isi_tup {ds : List D} : isiD (.tup ds) (.ty "tuple") = some true := by
  show (L2.kitB "tuple" "tuple") = _
  decide
theorem s_isint {n : Nat} {a : Int} (hn : 1 ≤ n) : RT n (.f "is_integer") [.int a] = .ok (.bl true) [] := by
  obtain ⟨j, rfl, hj⟩ := pos_of hn
  rw [RT, run_of t_isint rfl]
  (simp -dsimp only [evB, evS, evE, evT, evL, evA, evA1, evI, evP, evC, asgG, asgL, stoD, bind_eq, it_tup, it_lst, Nat.reduceLT, sz_0, sz_1, sz_2, sz_3, sz_4, sz_5, sz_6, sz_7, sz_8, wipe_nil, wipe_cons, Nat.zero_lt_succ, Nat.not_lt_zero, decide_true, decide_false, lift_some, thenF_nx, thenF_ret, back_none', fin_ret, fin_nx, startN,
  getVar_eq, gv_own, gv_int, gv_bl, gv_str, gv_non, gv_tup, gv_lst, gv_scr, gv_ins, keptAt_eq, kp_some, mi_own, mi_bor, mi_int, mi_bl, mi_str, mi_non, mi_tup, mi_lst, mi_scr, mi_ins, mvAt_eq, mv_some, mv_own, mv_bor, mv_int, mv_bl, mv_str, mv_non, mv_tup, mv_lst, mv_scr, mv_ins,
  fz_own, fz_l, fz_i, fzI, fz_bl, fz_str, fz_non, fzT, fz_lst, fz_scr, fz_ins, fz_set, fz_ty, fz_gl, b_int, i_add, u_neg, u_inv, c_lt, c_le, c_gt, c_ge, c_eqI, c_neI, c_eqB, c_isN, c_notN, t_bl, t_int, t_non, t_tup, t_lst, x_tup, x_lst, x_scr, s_lst, s_scr,
  l_len1, l_len2, l_len3, l_int, l_abs, l_tup, l_tup2, l_list, l_list2, l_max, l_min, l_isi, nil_out, out_int, out_bl, out_tup, out_lst, out_scr, out_ins, out_non, out_bor, nO, tB, tI, back_eq, put_none,
  List.map_cons, List.map_nil, List.length_cons, List.length_nil, List.replicate, List.getElem?_cons_zero, List.getElem?_cons_succ, List.append_nil, List.nil_append, List.cons_append, List.set_cons_zero, List.set_cons_succ, Option.map_some, Option.isSome_some, Option.isSome_none, if_true, if_false, ite_true, ite_false, Bool.false_eq_true, reduceCtorEq, Nat.reduceAdd, Nat.reduceSub, isi_int, isi_bool] <;> try dsimp only [Dx.D.fz, Dx.MV.fz])
  rfl
theorem s_ishour {n : Nat} {c a : Int} (hn : 2 ≤ n) : RT n (.f "is_hour") [.int c, .int a] = .ok (.bl (decide (0 ≤ a ∧ a < c))) [] := by
  obtain ⟨j, rfl, hj⟩ := pos_of hn
  rw [RT, run_of t_ishour rfl]
  (simp -dsimp only [evB, evS, evE, evT, evL, evA, evA1, evI, evP, evC, asgG, asgL, stoD, bind_eq, it_tup, it_lst, Nat.reduceLT, sz_0, sz_1, sz_2, sz_3, sz_4, sz_5, sz_6, sz_7, sz_8, wipe_nil, wipe_cons, Nat.zero_lt_succ, Nat.not_lt_zero, decide_true, decide_false, lift_some, thenF_nx, thenF_ret, back_none', fin_ret, fin_nx, startN,
  getVar_eq, gv_own, gv_int, gv_bl, gv_str, gv_non, gv_tup, gv_lst, gv_scr, gv_ins, keptAt_eq, kp_some, mi_own, mi_bor, mi_int, mi_bl, mi_str, mi_non, mi_tup, mi_lst, mi_scr, mi_ins, mvAt_eq, mv_some, mv_own, mv_bor, mv_int, mv_bl, mv_str, mv_non, mv_tup, mv_lst, mv_scr, mv_ins,
  fz_own, fz_l, fz_i, fzI, fz_bl, fz_str, fz_non, fzT, fz_lst, fz_scr, fz_ins, fz_set, fz_ty, fz_gl, b_int, i_add, u_neg, u_inv, c_lt, c_le, c_gt, c_ge, c_eqI, c_neI, c_eqB, c_isN, c_notN, t_bl, t_int, t_non, t_tup, t_lst, x_tup, x_lst, x_scr, s_lst, s_scr,
  l_len1, l_len2, l_len3, l_int, l_abs, l_tup, l_tup2, l_list, l_list2, l_max, l_min, l_isi, nil_out, out_int, out_bl, out_tup, out_lst, out_scr, out_ins, out_non, out_bor, nO, tB, tI, back_eq, put_none,
  List.map_cons, List.map_nil, List.length_cons, List.length_nil, List.replicate, List.getElem?_cons_zero, List.getElem?_cons_succ, List.append_nil, List.nil_append, List.cons_append, List.set_cons_zero, List.set_cons_succ, Option.map_some, Option.isSome_some, Option.isSome_none, if_true, if_false, ite_true, ite_false, Bool.false_eq_true, reduceCtorEq, Nat.reduceAdd, Nat.reduceSub] <;> try dsimp only [Dx.D.fz, Dx.MV.fz])
  rw [calO_eq (bag_d bag_nil) (s_isint hj)]
  (simp -dsimp only [evB, evS, evE, evT, evL, evA, evA1, evI, evP, evC, asgG, asgL, stoD, bind_eq, it_tup, it_lst, Nat.reduceLT, sz_0, sz_1, sz_2, sz_3, sz_4, sz_5, sz_6, sz_7, sz_8, wipe_nil, wipe_cons, Nat.zero_lt_succ, Nat.not_lt_zero, decide_true, decide_false, lift_some, thenF_nx, thenF_ret, back_none', fin_ret, fin_nx, startN,
  getVar_eq, gv_own, gv_int, gv_bl, gv_str, gv_non, gv_tup, gv_lst, gv_scr, gv_ins, keptAt_eq, kp_some, mi_own, mi_bor, mi_int, mi_bl, mi_str, mi_non, mi_tup, mi_lst, mi_scr, mi_ins, mvAt_eq, mv_some, mv_own, mv_bor, mv_int, mv_bl, mv_str, mv_non, mv_tup, mv_lst, mv_scr, mv_ins,
  fz_own, fz_l, fz_i, fzI, fz_bl, fz_str, fz_non, fzT, fz_lst, fz_scr, fz_ins, fz_set, fz_ty, fz_gl, b_int, i_add, u_neg, u_inv, c_lt, c_le, c_gt, c_ge, c_eqI, c_neI, c_eqB, c_isN, c_notN, t_bl, t_int, t_non, t_tup, t_lst, x_tup, x_lst, x_scr, s_lst, s_scr,
  l_len1, l_len2, l_len3, l_int, l_abs, l_tup, l_tup2, l_list, l_list2, l_max, l_min, l_isi, nil_out, out_int, out_bl, out_tup, out_lst, out_scr, out_ins, out_non, out_bor, nO, tB, tI, back_eq, put_none,
  List.map_cons, List.map_nil, List.length_cons, List.length_nil, List.replicate, List.getElem?_cons_zero, List.getElem?_cons_succ, List.append_nil, List.nil_append, List.cons_append, List.set_cons_zero, List.set_cons_succ, Option.map_some, Option.isSome_some, Option.isSome_none, if_true, if_false, ite_true, ite_false, Bool.false_eq_true, reduceCtorEq, Nat.reduceAdd, Nat.reduceSub] <;> try dsimp only [Dx.D.fz, Dx.MV.fz])
  by_cases h : 0 ≤ a
  · simp only [h, decide_true, true_and]
    (simp -dsimp only [evB, evS, evE, evT, evL, evA, evA1, evI, evP, evC, asgG, asgL, stoD, bind_eq, it_tup, it_lst, Nat.reduceLT, sz_0, sz_1, sz_2, sz_3, sz_4, sz_5, sz_6, sz_7, sz_8, wipe_nil, wipe_cons, Nat.zero_lt_succ, Nat.not_lt_zero, decide_true, decide_false, lift_some, thenF_nx, thenF_ret, back_none', fin_ret, fin_nx, startN,
  getVar_eq, gv_own, gv_int, gv_bl, gv_str, gv_non, gv_tup, gv_lst, gv_scr, gv_ins, keptAt_eq, kp_some, mi_own, mi_bor, mi_int, mi_bl, mi_str, mi_non, mi_tup, mi_lst, mi_scr, mi_ins, mvAt_eq, mv_some, mv_own, mv_bor, mv_int, mv_bl, mv_str, mv_non, mv_tup, mv_lst, mv_scr, mv_ins,
  fz_own, fz_l, fz_i, fzI, fz_bl, fz_str, fz_non, fzT, fz_lst, fz_scr, fz_ins, fz_set, fz_ty, fz_gl, b_int, i_add, u_neg, u_inv, c_lt, c_le, c_gt, c_ge, c_eqI, c_neI, c_eqB, c_isN, c_notN, t_bl, t_int, t_non, t_tup, t_lst, x_tup, x_lst, x_scr, s_lst, s_scr,
  l_len1, l_len2, l_len3, l_int, l_abs, l_tup, l_tup2, l_list, l_list2, l_max, l_min, l_isi, nil_out, out_int, out_bl, out_tup, out_lst, out_scr, out_ins, out_non, out_bor, nO, tB, tI, back_eq, put_none,
  List.map_cons, List.map_nil, List.length_cons, List.length_nil, List.replicate, List.getElem?_cons_zero, List.getElem?_cons_succ, List.append_nil, List.nil_append, List.cons_append, List.set_cons_zero, List.set_cons_succ, Option.map_some, Option.isSome_some, Option.isSome_none, if_true, if_false, ite_true, ite_false, Bool.false_eq_true, reduceCtorEq, Nat.reduceAdd, Nat.reduceSub] <;> try dsimp only [Dx.D.fz, Dx.MV.fz])
  · simp only [h, decide_false, false_and]
    (simp -dsimp only [evB, evS, evE, evT, evL, evA, evA1, evI, evP, evC, asgG, asgL, stoD, bind_eq, it_tup, it_lst, Nat.reduceLT, sz_0, sz_1, sz_2, sz_3, sz_4, sz_5, sz_6, sz_7, sz_8, wipe_nil, wipe_cons, Nat.zero_lt_succ, Nat.not_lt_zero, decide_true, decide_false, lift_some, thenF_nx, thenF_ret, back_none', fin_ret, fin_nx, startN,
  getVar_eq, gv_own, gv_int, gv_bl, gv_str, gv_non, gv_tup, gv_lst, gv_scr, gv_ins, keptAt_eq, kp_some, mi_own, mi_bor, mi_int, mi_bl, mi_str, mi_non, mi_tup, mi_lst, mi_scr, mi_ins, mvAt_eq, mv_some, mv_own, mv_bor, mv_int, mv_bl, mv_str, mv_non, mv_tup, mv_lst, mv_scr, mv_ins,
  fz_own, fz_l, fz_i, fzI, fz_bl, fz_str, fz_non, fzT, fz_lst, fz_scr, fz_ins, fz_set, fz_ty, fz_gl, b_int, i_add, u_neg, u_inv, c_lt, c_le, c_gt, c_ge, c_eqI, c_neI, c_eqB, c_isN, c_notN, t_bl, t_int, t_non, t_tup, t_lst, x_tup, x_lst, x_scr, s_lst, s_scr,
  l_len1, l_len2, l_len3, l_int, l_abs, l_tup, l_tup2, l_list, l_list2, l_max, l_min, l_isi, nil_out, out_int, out_bl, out_tup, out_lst, out_scr, out_ins, out_non, out_bor, nO, tB, tI, back_eq, put_none,
  List.map_cons, List.map_nil, List.length_cons, List.length_nil, List.replicate, List.getElem?_cons_zero, List.getElem?_cons_succ, List.append_nil, List.nil_append, List.cons_append, List.set_cons_zero, List.set_cons_succ, Option.map_some, Option.isSome_some, Option.isSome_none, if_true, if_false, ite_true, ite_false, Bool.false_eq_true, reduceCtorEq, Nat.reduceAdd, Nat.reduceSub] <;> try dsimp only [Dx.D.fz, Dx.MV.fz])
/-- a loop that runs through -/
theorem forD_run {step : D → En → Out Ev.Flow En} (I : Nat → En → Prop) : ∀ {xs : List D} {i : Nat} {ρ : En}, I i ρ → (∀ k x ρ, xs[k]? = some x → I (i + k) ρ → ∃ ρ', (step x ρ = .ok .nx ρ' ∨ step x ρ = .ok .ct ρ') ∧ I (i + k + 1) ρ') → ∃ ρ', forD step xs ρ = .ok .nx ρ' ∧ I (i + xs.length) ρ'
  | [], i, ρ, h, _ => ⟨ρ, rfl, h⟩
  | x :: xs, i, ρ, h, hs => by
    obtain ⟨ρ1, e, h1⟩ := hs 0 x ρ rfl h
    obtain ⟨ρ2, e2, h2⟩ := forD_run I (xs := xs) (i := i + 1) (ρ := ρ1) h1 fun k y ρ hk hI => by
      have := hs (k + 1) y ρ (by simpa using hk) (by rw [show i + (k + 1) = i + 1 + k by omega]; exact hI)
      rw [show i + (k + 1) + 1 = i + 1 + k + 1 by omega] at this
      exact this
    refine ⟨ρ2, ?_, by rw [List.length_cons, show i + (xs.length + 1) = i + 1 + xs.length by omega]; exact h2⟩
    unfold forD
    rcases e with e | e <;> rw [e] <;> exact e2
theorem fin_run {ds : List D} {r : Out D (List MV)} {step : D → En → Out Ev.Flow En} {k : En → Out Ev.Flow En} {xs : List D} {ρ : En} (I : Nat → En → Prop) (h0 : I 0 ρ)
    (h : ∀ k x ρ, xs[k]? = some x → I k ρ → ∃ ρ', (step x ρ = .ok .nx ρ' ∨ step x ρ = .ok .ct ρ') ∧ I (k + 1) ρ') (q : ∀ ρ', I xs.length ρ' → fin ds (k ρ') = r) : fin ds (thenF (forD step xs ρ) k) = r := by
  obtain ⟨ρ', e, h1⟩ := forD_run I (i := 0) h0 (by simpa using h)
  rw [e]
  exact q ρ' (by simpa using h1)
/-- a clock and hours of it -/
structure Valid (n : Nat) (row : List Nat) : Prop where
  pos : 1 ≤ n
  le : n ≤ 240
  asc : row.Pairwise (· < ·)
  lt : ∀ k ∈ row, k < n
theorem natsD_get {hs : List Nat} {k : Nat} {d : D} (h : (natsD hs)[k]? = some d) : ∃ x, hs[k]? = some x ∧ d = .int (x : Int) := by
  unfold natsD at h
  rw [List.getElem?_map] at h
  obtain ⟨x, h1, h2⟩ := Option.map_eq_some_iff.mp h
  exact ⟨x, h1, h2.symm⟩
theorem s_wrong {n c : Nat} {row : List Nat} (hn : 3 ≤ n) (hv : Valid c row) : RT n (.f "wrong_index") [.int c, .tup (natsD row)] = .ok .non [] := by
  obtain ⟨j, rfl, hj⟩ := pos_of hn
  rw [RT, run_of t_wrong rfl]
  (simp -dsimp only [evB, evS, evE, evT, evL, evA, evA1, evI, evP, evC, asgG, asgL, stoD, bind_eq, it_tup, it_lst, Nat.reduceLT, sz_0, sz_1, sz_2, sz_3, sz_4, sz_5, sz_6, sz_7, sz_8, wipe_nil, wipe_cons, Nat.zero_lt_succ, Nat.not_lt_zero, decide_true, decide_false, lift_some, thenF_nx, thenF_ret, back_none', fin_ret, fin_nx, startN,
  getVar_eq, gv_own, gv_int, gv_bl, gv_str, gv_non, gv_tup, gv_lst, gv_scr, gv_ins, keptAt_eq, kp_some, mi_own, mi_bor, mi_int, mi_bl, mi_str, mi_non, mi_tup, mi_lst, mi_scr, mi_ins, mvAt_eq, mv_some, mv_own, mv_bor, mv_int, mv_bl, mv_str, mv_non, mv_tup, mv_lst, mv_scr, mv_ins,
  fz_own, fz_l, fz_i, fzI, fz_bl, fz_str, fz_non, fzT, fz_lst, fz_scr, fz_ins, fz_set, fz_ty, fz_gl, b_int, i_add, u_neg, u_inv, c_lt, c_le, c_gt, c_ge, c_eqI, c_neI, c_eqB, c_isN, c_notN, t_bl, t_int, t_non, t_tup, t_lst, x_tup, x_lst, x_scr, s_lst, s_scr,
  l_len1, l_len2, l_len3, l_int, l_abs, l_tup, l_tup2, l_list, l_list2, l_max, l_min, l_isi, nil_out, out_int, out_bl, out_tup, out_lst, out_scr, out_ins, out_non, out_bor, nO, tB, tI, back_eq, put_none,
  List.map_cons, List.map_nil, List.length_cons, List.length_nil, List.replicate, List.getElem?_cons_zero, List.getElem?_cons_succ, List.append_nil, List.nil_append, List.cons_append, List.set_cons_zero, List.set_cons_succ, Option.map_some, Option.isSome_some, Option.isSome_none, if_true, if_false, ite_true, ite_false, Bool.false_eq_true, reduceCtorEq, Nat.reduceAdd, Nat.reduceSub, enuO] <;> try dsimp only [Dx.D.fz, Dx.MV.fz])
  refine fin_run (fun i ρ => ∃ (b : Int) (o3 o4 : Option D), ρ = [some (.int c), some (.tup (natsD row)), some (.int b), o3, o4] ∧ ∀ k x, i ≤ k → row[k]? = some x → b < (x : Int)) ⟨-1, none, none, rfl, fun k x _ _ => by omega⟩ (fun k x ρ hk ⟨b, o3, o4, hρ, hb⟩ => ?_) (fun ρ' ⟨b, o3, o4, hρ, _⟩ => ?_)
  · subst hρ
    obtain ⟨y, h1, rfl⟩ := enumD_get hk
    obtain ⟨z, h2, rfl⟩ := natsD_get h1
    refine ⟨[some (.int c), some (.tup (natsD row)), some (.int (z : Int)), some (.int (k : Nat)), some (.int (z : Int))], .inl ?_, ⟨(z : Int), _, _, rfl, fun i w hi hw => ?_⟩⟩
    · (simp -dsimp only [evB, evS, evE, evT, evL, evA, evA1, evI, evP, evC, asgG, asgL, stoD, bind_eq, it_tup, it_lst, Nat.reduceLT, sz_0, sz_1, sz_2, sz_3, sz_4, sz_5, sz_6, sz_7, sz_8, wipe_nil, wipe_cons, Nat.zero_lt_succ, Nat.not_lt_zero, decide_true, decide_false, lift_some, thenF_nx, thenF_ret, back_none', fin_ret, fin_nx, startN,
  getVar_eq, gv_own, gv_int, gv_bl, gv_str, gv_non, gv_tup, gv_lst, gv_scr, gv_ins, keptAt_eq, kp_some, mi_own, mi_bor, mi_int, mi_bl, mi_str, mi_non, mi_tup, mi_lst, mi_scr, mi_ins, mvAt_eq, mv_some, mv_own, mv_bor, mv_int, mv_bl, mv_str, mv_non, mv_tup, mv_lst, mv_scr, mv_ins,
  fz_own, fz_l, fz_i, fzI, fz_bl, fz_str, fz_non, fzT, fz_lst, fz_scr, fz_ins, fz_set, fz_ty, fz_gl, b_int, i_add, u_neg, u_inv, c_lt, c_le, c_gt, c_ge, c_eqI, c_neI, c_eqB, c_isN, c_notN, t_bl, t_int, t_non, t_tup, t_lst, x_tup, x_lst, x_scr, s_lst, s_scr,
  l_len1, l_len2, l_len3, l_int, l_abs, l_tup, l_tup2, l_list, l_list2, l_max, l_min, l_isi, nil_out, out_int, out_bl, out_tup, out_lst, out_scr, out_ins, out_non, out_bor, nO, tB, tI, back_eq, put_none,
  List.map_cons, List.map_nil, List.length_cons, List.length_nil, List.replicate, List.getElem?_cons_zero, List.getElem?_cons_succ, List.append_nil, List.nil_append, List.cons_append, List.set_cons_zero, List.set_cons_succ, Option.map_some, Option.isSome_some, Option.isSome_none, if_true, if_false, ite_true, ite_false, Bool.false_eq_true, reduceCtorEq, Nat.reduceAdd, Nat.reduceSub] <;> try dsimp only [Dx.D.fz, Dx.MV.fz])
      have hz : z < c := hv.lt z (List.mem_of_getElem? h2)
      rw [calO_eq (bag_d (bag_d bag_nil)) (s_ishour hj)]
      (simp -dsimp only [evB, evS, evE, evT, evL, evA, evA1, evI, evP, evC, asgG, asgL, stoD, bind_eq, it_tup, it_lst, Nat.reduceLT, sz_0, sz_1, sz_2, sz_3, sz_4, sz_5, sz_6, sz_7, sz_8, wipe_nil, wipe_cons, Nat.zero_lt_succ, Nat.not_lt_zero, decide_true, decide_false, lift_some, thenF_nx, thenF_ret, back_none', fin_ret, fin_nx, startN,
  getVar_eq, gv_own, gv_int, gv_bl, gv_str, gv_non, gv_tup, gv_lst, gv_scr, gv_ins, keptAt_eq, kp_some, mi_own, mi_bor, mi_int, mi_bl, mi_str, mi_non, mi_tup, mi_lst, mi_scr, mi_ins, mvAt_eq, mv_some, mv_own, mv_bor, mv_int, mv_bl, mv_str, mv_non, mv_tup, mv_lst, mv_scr, mv_ins,
  fz_own, fz_l, fz_i, fzI, fz_bl, fz_str, fz_non, fzT, fz_lst, fz_scr, fz_ins, fz_set, fz_ty, fz_gl, b_int, i_add, u_neg, u_inv, c_lt, c_le, c_gt, c_ge, c_eqI, c_neI, c_eqB, c_isN, c_notN, t_bl, t_int, t_non, t_tup, t_lst, x_tup, x_lst, x_scr, s_lst, s_scr,
  l_len1, l_len2, l_len3, l_int, l_abs, l_tup, l_tup2, l_list, l_list2, l_max, l_min, l_isi, nil_out, out_int, out_bl, out_tup, out_lst, out_scr, out_ins, out_non, out_bor, nO, tB, tI, back_eq, put_none,
  List.map_cons, List.map_nil, List.length_cons, List.length_nil, List.replicate, List.getElem?_cons_zero, List.getElem?_cons_succ, List.append_nil, List.nil_append, List.cons_append, List.set_cons_zero, List.set_cons_succ, Option.map_some, Option.isSome_some, Option.isSome_none, if_true, if_false, ite_true, ite_false, Bool.false_eq_true, reduceCtorEq, Nat.reduceAdd, Nat.reduceSub] <;> try dsimp only [Dx.D.fz, Dx.MV.fz])
      have hbz := hb k z (Nat.le_refl _) h2
      rw [decide_eq_true (show 0 ≤ (z : Int) ∧ (z : Int) < (c : Int) by omega), decide_eq_false (show ¬ (z : Int) ≤ b by omega)]
      (simp -dsimp only [evB, evS, evE, evT, evL, evA, evA1, evI, evP, evC, asgG, asgL, stoD, bind_eq, it_tup, it_lst, Nat.reduceLT, sz_0, sz_1, sz_2, sz_3, sz_4, sz_5, sz_6, sz_7, sz_8, wipe_nil, wipe_cons, Nat.zero_lt_succ, Nat.not_lt_zero, decide_true, decide_false, lift_some, thenF_nx, thenF_ret, back_none', fin_ret, fin_nx, startN,
  getVar_eq, gv_own, gv_int, gv_bl, gv_str, gv_non, gv_tup, gv_lst, gv_scr, gv_ins, keptAt_eq, kp_some, mi_own, mi_bor, mi_int, mi_bl, mi_str, mi_non, mi_tup, mi_lst, mi_scr, mi_ins, mvAt_eq, mv_some, mv_own, mv_bor, mv_int, mv_bl, mv_str, mv_non, mv_tup, mv_lst, mv_scr, mv_ins,
  fz_own, fz_l, fz_i, fzI, fz_bl, fz_str, fz_non, fzT, fz_lst, fz_scr, fz_ins, fz_set, fz_ty, fz_gl, b_int, i_add, u_neg, u_inv, c_lt, c_le, c_gt, c_ge, c_eqI, c_neI, c_eqB, c_isN, c_notN, t_bl, t_int, t_non, t_tup, t_lst, x_tup, x_lst, x_scr, s_lst, s_scr,
  l_len1, l_len2, l_len3, l_int, l_abs, l_tup, l_tup2, l_list, l_list2, l_max, l_min, l_isi, nil_out, out_int, out_bl, out_tup, out_lst, out_scr, out_ins, out_non, out_bor, nO, tB, tI, back_eq, put_none,
  List.map_cons, List.map_nil, List.length_cons, List.length_nil, List.replicate, List.getElem?_cons_zero, List.getElem?_cons_succ, List.append_nil, List.nil_append, List.cons_append, List.set_cons_zero, List.set_cons_succ, Option.map_some, Option.isSome_some, Option.isSome_none, if_true, if_false, ite_true, ite_false, Bool.false_eq_true, reduceCtorEq, Nat.reduceAdd, Nat.reduceSub, Bool.not_true] <;> try dsimp only [Dx.D.fz, Dx.MV.fz])
    · have := List.pairwise_iff_getElem.mp hv.asc
      obtain ⟨l1, e1⟩ := List.getElem?_eq_some_iff.mp h2
      obtain ⟨l2, e2⟩ := List.getElem?_eq_some_iff.mp hw
      have := this k i l1 l2 (by omega)
      rw [e1, e2] at this
      omega
  · subst hρ
    (simp -dsimp only [evB, evS, evE, evT, evL, evA, evA1, evI, evP, evC, asgG, asgL, stoD, bind_eq, it_tup, it_lst, Nat.reduceLT, sz_0, sz_1, sz_2, sz_3, sz_4, sz_5, sz_6, sz_7, sz_8, wipe_nil, wipe_cons, Nat.zero_lt_succ, Nat.not_lt_zero, decide_true, decide_false, lift_some, thenF_nx, thenF_ret, back_none', fin_ret, fin_nx, startN,
  getVar_eq, gv_own, gv_int, gv_bl, gv_str, gv_non, gv_tup, gv_lst, gv_scr, gv_ins, keptAt_eq, kp_some, mi_own, mi_bor, mi_int, mi_bl, mi_str, mi_non, mi_tup, mi_lst, mi_scr, mi_ins, mvAt_eq, mv_some, mv_own, mv_bor, mv_int, mv_bl, mv_str, mv_non, mv_tup, mv_lst, mv_scr, mv_ins,
  fz_own, fz_l, fz_i, fzI, fz_bl, fz_str, fz_non, fzT, fz_lst, fz_scr, fz_ins, fz_set, fz_ty, fz_gl, b_int, i_add, u_neg, u_inv, c_lt, c_le, c_gt, c_ge, c_eqI, c_neI, c_eqB, c_isN, c_notN, t_bl, t_int, t_non, t_tup, t_lst, x_tup, x_lst, x_scr, s_lst, s_scr,
  l_len1, l_len2, l_len3, l_int, l_abs, l_tup, l_tup2, l_list, l_list2, l_max, l_min, l_isi, nil_out, out_int, out_bl, out_tup, out_lst, out_scr, out_ins, out_non, out_bor, nO, tB, tI, back_eq, put_none,
  List.map_cons, List.map_nil, List.length_cons, List.length_nil, List.replicate, List.getElem?_cons_zero, List.getElem?_cons_succ, List.append_nil, List.nil_append, List.cons_append, List.set_cons_zero, List.set_cons_succ, Option.map_some, Option.isSome_some, Option.isSome_none, if_true, if_false, ite_true, ite_false, Bool.false_eq_true, reduceCtorEq, Nat.reduceAdd, Nat.reduceSub] <;> try dsimp only [Dx.D.fz, Dx.MV.fz])

theorem t_clock : m.T (.p "Hours" "clock") =   some { np := 1, ns := 1, mu := [false], body := [IS.ret (some (IE.fld (IE.var 0) (Str.ofString "_clock")))] } := by kernel_rfl
theorem t_hrs : m.T (.p "Hours" "hours") =   some { np := 1, ns := 1, mu := [false], body := [IS.ret (some (IE.fld (IE.var 0) (Str.ofString "_hours")))] } := by kernel_rfl
theorem t_add : m.T (.m "Hours" "__add__") =   some
    { np := 2, ns := 2, mu := [false, false],
      body :=
        [IS.expr
            (IE.cal (Str.ofString "check_other") [IA.of (IE.fld (IE.var 0) (Str.ofString "_clock")), IA.of (IE.var 1)]
              []),
          IS.ret
            (some
              (IE.cal (Str.ofString "of_mask")
                [IA.of (IE.fld (IE.var 0) (Str.ofString "_clock")),
                  IA.of
                    (IE.cal (Str.ofString "sums")
                      [IA.of (IE.fld (IE.var 0) (Str.ofString "_clock")),
                        IA.of (IE.fld (IE.var 0) (Str.ofString "_mask")),
                        IA.of (IE.fld (IE.var 1) (Str.ofString "_mask"))]
                      [])]
                []))] } := by kernel_rfl
theorem t_sub : m.T (.m "Hours" "__sub__") =   some
    { np := 2, ns := 3, mu := [false, false],
      body :=
        [IS.expr
            (IE.cal (Str.ofString "check_other") [IA.of (IE.fld (IE.var 0) (Str.ofString "_clock")), IA.of (IE.var 1)]
              []),
          IS.set 2
            (IE.cal (Str.ofString "scaled")
              [IA.of (IE.fld (IE.var 0) (Str.ofString "_clock")), IA.of (IE.fld (IE.var 1) (Str.ofString "_mask")),
                IA.of (IE.una UnaryOp.USub (IE.cst (D.int 1)))]
              []),
          IS.ret
            (some
              (IE.cal (Str.ofString "of_mask")
                [IA.of (IE.fld (IE.var 0) (Str.ofString "_clock")),
                  IA.of
                    (IE.cal (Str.ofString "sums")
                      [IA.of (IE.fld (IE.var 0) (Str.ofString "_clock")),
                        IA.of (IE.fld (IE.var 0) (Str.ofString "_mask")), IA.of (IE.var 2)]
                      [])]
                []))] } := by kernel_rfl
theorem t_or : m.T (.m "Hours" "__or__") =   some
    { np := 2, ns := 2, mu := [false, false],
      body :=
        [IS.expr
            (IE.cal (Str.ofString "check_other") [IA.of (IE.fld (IE.var 0) (Str.ofString "_clock")), IA.of (IE.var 1)]
              []),
          IS.ret
            (some
              (IE.cal (Str.ofString "of_mask")
                [IA.of (IE.fld (IE.var 0) (Str.ofString "_clock")),
                  IA.of
                    (IE.bin Operator.BitOr (IE.fld (IE.var 0) (Str.ofString "_mask"))
                      (IE.fld (IE.var 1) (Str.ofString "_mask")))]
                []))] } := by kernel_rfl
theorem t_and : m.T (.m "Hours" "__and__") =   some
    { np := 2, ns := 2, mu := [false, false],
      body :=
        [IS.expr
            (IE.cal (Str.ofString "check_other") [IA.of (IE.fld (IE.var 0) (Str.ofString "_clock")), IA.of (IE.var 1)]
              []),
          IS.ret
            (some
              (IE.cal (Str.ofString "of_mask")
                [IA.of (IE.fld (IE.var 0) (Str.ofString "_clock")),
                  IA.of
                    (IE.bin Operator.BitAnd (IE.fld (IE.var 0) (Str.ofString "_mask"))
                      (IE.fld (IE.var 1) (Str.ofString "_mask")))]
                []))] } := by kernel_rfl
theorem t_inv : m.T (.m "Hours" "__invert__") =   some
    { np := 1, ns := 1, mu := [false],
      body :=
        [IS.ret
            (some
              (IE.cal (Str.ofString "of_mask")
                [IA.of (IE.fld (IE.var 0) (Str.ofString "_clock")),
                  IA.of
                    (IE.bin Operator.BitXor (IE.fld (IE.var 0) (Str.ofString "_mask"))
                      (IE.cal (Str.ofString "whole_mask") [IA.of (IE.fld (IE.var 0) (Str.ofString "_clock"))] []))]
                []))] } := by kernel_rfl
theorem t_neg : m.T (.m "Hours" "__neg__") =   some
    { np := 1, ns := 1, mu := [false],
      body :=
        [IS.ret
            (some
              (IE.cal (Str.ofString "of_mask")
                [IA.of (IE.fld (IE.var 0) (Str.ofString "_clock")),
                  IA.of
                    (IE.cal (Str.ofString "scaled")
                      [IA.of (IE.fld (IE.var 0) (Str.ofString "_clock")),
                        IA.of (IE.fld (IE.var 0) (Str.ofString "_mask")),
                        IA.of (IE.una UnaryOp.USub (IE.cst (D.int 1)))]
                      [])]
                []))] } := by kernel_rfl
theorem t_mul : m.T (.m "Hours" "__mul__") =   some
    { np := 2, ns := 2, mu := [false, false],
      body :=
        [IS.expr (IE.cal (Str.ofString "check_integer") [IA.of (IE.var 1)] []),
          IS.ret
            (some
              (IE.cal (Str.ofString "of_mask")
                [IA.of (IE.fld (IE.var 0) (Str.ofString "_clock")),
                  IA.of
                    (IE.cal (Str.ofString "scaled")
                      [IA.of (IE.fld (IE.var 0) (Str.ofString "_clock")),
                        IA.of (IE.fld (IE.var 0) (Str.ofString "_mask")), IA.of (IE.var 1)]
                      [])]
                []))] } := by kernel_rfl
theorem t_eq : m.T (.m "Hours" "__eq__") =   some
    { np := 2, ns := 2, mu := [false, false],
      body :=
        [IS.ret
            (some
              (IE.and (IE.blt Bf.isinstance [IE.var 1, IE.cst (D.gl (Str.ofString "Hours"))])
                (IE.and
                  (IE.cmp CmpOp.Eq (IE.fld (IE.var 0) (Str.ofString "_clock"))
                    (IE.fld (IE.var 1) (Str.ofString "_clock")))
                  (IE.cmp CmpOp.Eq (IE.fld (IE.var 0) (Str.ofString "_hours"))
                    (IE.fld (IE.var 1) (Str.ofString "_hours"))))))] } := by kernel_rfl
abbrev hoursD (n : Nat) (row : List Nat) : D := .ins "Hours" [(("_clock" : Str), .int (n : Int)), (("_hours" : Str), .tup (natsD row)), (("_mask" : Str), .int (maskN row : Nat))]
theorem s_chkint {n : Nat} {a : Int} (hn : 2 ≤ n) : RT n (.f "check_integer") [.int a] = .ok .non [] := by
  obtain ⟨j, rfl, hj⟩ := pos_of hn
  rw [RT, run_of t_chkint rfl]
  (simp -dsimp only [evB, evS, evE, evT, evL, evA, evA1, evI, evP, evC, asgG, asgL, stoD, bind_eq, it_tup, it_lst, Nat.reduceLT, sz_0, sz_1, sz_2, sz_3, sz_4, sz_5, sz_6, sz_7, sz_8, wipe_nil, wipe_cons, Nat.zero_lt_succ, Nat.not_lt_zero, decide_true, decide_false, lift_some, thenF_nx, thenF_ret, back_none', fin_ret, fin_nx, startN,
  getVar_eq, gv_own, gv_int, gv_bl, gv_str, gv_non, gv_tup, gv_lst, gv_scr, gv_ins, keptAt_eq, kp_some, mi_own, mi_bor, mi_int, mi_bl, mi_str, mi_non, mi_tup, mi_lst, mi_scr, mi_ins, mvAt_eq, mv_some, mv_own, mv_bor, mv_int, mv_bl, mv_str, mv_non, mv_tup, mv_lst, mv_scr, mv_ins,
  fz_own, fz_l, fz_i, fzI, fz_bl, fz_str, fz_non, fzT, fz_lst, fz_scr, fz_ins, fz_set, fz_ty, fz_gl, b_int, i_add, u_neg, u_inv, c_lt, c_le, c_gt, c_ge, c_eqI, c_neI, c_eqB, c_isN, c_notN, t_bl, t_int, t_non, t_tup, t_lst, x_tup, x_lst, x_scr, s_lst, s_scr,
  l_len1, l_len2, l_len3, l_int, l_abs, l_tup, l_tup2, l_list, l_list2, l_max, l_min, l_isi, nil_out, out_int, out_bl, out_tup, out_lst, out_scr, out_ins, out_non, out_bor, nO, tB, tI, back_eq, put_none,
  List.map_cons, List.map_nil, List.length_cons, List.length_nil, List.replicate, List.getElem?_cons_zero, List.getElem?_cons_succ, List.append_nil, List.nil_append, List.cons_append, List.set_cons_zero, List.set_cons_succ, Option.map_some, Option.isSome_some, Option.isSome_none, if_true, if_false, ite_true, ite_false, Bool.false_eq_true, reduceCtorEq, Nat.reduceAdd, Nat.reduceSub] <;> try dsimp only [Dx.D.fz, Dx.MV.fz])
  rw [calO_eq (bag_d bag_nil) (s_isint hj)]
  (simp -dsimp only [evB, evS, evE, evT, evL, evA, evA1, evI, evP, evC, asgG, asgL, stoD, bind_eq, it_tup, it_lst, Nat.reduceLT, sz_0, sz_1, sz_2, sz_3, sz_4, sz_5, sz_6, sz_7, sz_8, wipe_nil, wipe_cons, Nat.zero_lt_succ, Nat.not_lt_zero, decide_true, decide_false, lift_some, thenF_nx, thenF_ret, back_none', fin_ret, fin_nx, startN,
  getVar_eq, gv_own, gv_int, gv_bl, gv_str, gv_non, gv_tup, gv_lst, gv_scr, gv_ins, keptAt_eq, kp_some, mi_own, mi_bor, mi_int, mi_bl, mi_str, mi_non, mi_tup, mi_lst, mi_scr, mi_ins, mvAt_eq, mv_some, mv_own, mv_bor, mv_int, mv_bl, mv_str, mv_non, mv_tup, mv_lst, mv_scr, mv_ins,
  fz_own, fz_l, fz_i, fzI, fz_bl, fz_str, fz_non, fzT, fz_lst, fz_scr, fz_ins, fz_set, fz_ty, fz_gl, b_int, i_add, u_neg, u_inv, c_lt, c_le, c_gt, c_ge, c_eqI, c_neI, c_eqB, c_isN, c_notN, t_bl, t_int, t_non, t_tup, t_lst, x_tup, x_lst, x_scr, s_lst, s_scr,
  l_len1, l_len2, l_len3, l_int, l_abs, l_tup, l_tup2, l_list, l_list2, l_max, l_min, l_isi, nil_out, out_int, out_bl, out_tup, out_lst, out_scr, out_ins, out_non, out_bor, nO, tB, tI, back_eq, put_none,
  List.map_cons, List.map_nil, List.length_cons, List.length_nil, List.replicate, List.getElem?_cons_zero, List.getElem?_cons_succ, List.append_nil, List.nil_append, List.cons_append, List.set_cons_zero, List.set_cons_succ, Option.map_some, Option.isSome_some, Option.isSome_none, if_true, if_false, ite_true, ite_false, Bool.false_eq_true, reduceCtorEq, Nat.reduceAdd, Nat.reduceSub, Bool.not_true] <;> try dsimp only [Dx.D.fz, Dx.MV.fz])
theorem s_chkclk {n c : Nat} (hn : 2 ≤ n) (h1 : 1 ≤ c) (h2 : c ≤ 240) : RT n (.f "check_clock") [.int c, .int 240] = .ok .non [] := by
  obtain ⟨j, rfl, hj⟩ := pos_of hn
  rw [RT, run_of t_chkclk rfl]
  (simp -dsimp only [evB, evS, evE, evT, evL, evA, evA1, evI, evP, evC, asgG, asgL, stoD, bind_eq, it_tup, it_lst, Nat.reduceLT, sz_0, sz_1, sz_2, sz_3, sz_4, sz_5, sz_6, sz_7, sz_8, wipe_nil, wipe_cons, Nat.zero_lt_succ, Nat.not_lt_zero, decide_true, decide_false, lift_some, thenF_nx, thenF_ret, back_none', fin_ret, fin_nx, startN,
  getVar_eq, gv_own, gv_int, gv_bl, gv_str, gv_non, gv_tup, gv_lst, gv_scr, gv_ins, keptAt_eq, kp_some, mi_own, mi_bor, mi_int, mi_bl, mi_str, mi_non, mi_tup, mi_lst, mi_scr, mi_ins, mvAt_eq, mv_some, mv_own, mv_bor, mv_int, mv_bl, mv_str, mv_non, mv_tup, mv_lst, mv_scr, mv_ins,
  fz_own, fz_l, fz_i, fzI, fz_bl, fz_str, fz_non, fzT, fz_lst, fz_scr, fz_ins, fz_set, fz_ty, fz_gl, b_int, i_add, u_neg, u_inv, c_lt, c_le, c_gt, c_ge, c_eqI, c_neI, c_eqB, c_isN, c_notN, t_bl, t_int, t_non, t_tup, t_lst, x_tup, x_lst, x_scr, s_lst, s_scr,
  l_len1, l_len2, l_len3, l_int, l_abs, l_tup, l_tup2, l_list, l_list2, l_max, l_min, l_isi, nil_out, out_int, out_bl, out_tup, out_lst, out_scr, out_ins, out_non, out_bor, nO, tB, tI, back_eq, put_none,
  List.map_cons, List.map_nil, List.length_cons, List.length_nil, List.replicate, List.getElem?_cons_zero, List.getElem?_cons_succ, List.append_nil, List.nil_append, List.cons_append, List.set_cons_zero, List.set_cons_succ, Option.map_some, Option.isSome_some, Option.isSome_none, if_true, if_false, ite_true, ite_false, Bool.false_eq_true, reduceCtorEq, Nat.reduceAdd, Nat.reduceSub] <;> try dsimp only [Dx.D.fz, Dx.MV.fz])
  rw [calO_eq (bag_d bag_nil) (s_isint hj)]
  (simp -dsimp only [evB, evS, evE, evT, evL, evA, evA1, evI, evP, evC, asgG, asgL, stoD, bind_eq, it_tup, it_lst, Nat.reduceLT, sz_0, sz_1, sz_2, sz_3, sz_4, sz_5, sz_6, sz_7, sz_8, wipe_nil, wipe_cons, Nat.zero_lt_succ, Nat.not_lt_zero, decide_true, decide_false, lift_some, thenF_nx, thenF_ret, back_none', fin_ret, fin_nx, startN,
  getVar_eq, gv_own, gv_int, gv_bl, gv_str, gv_non, gv_tup, gv_lst, gv_scr, gv_ins, keptAt_eq, kp_some, mi_own, mi_bor, mi_int, mi_bl, mi_str, mi_non, mi_tup, mi_lst, mi_scr, mi_ins, mvAt_eq, mv_some, mv_own, mv_bor, mv_int, mv_bl, mv_str, mv_non, mv_tup, mv_lst, mv_scr, mv_ins,
  fz_own, fz_l, fz_i, fzI, fz_bl, fz_str, fz_non, fzT, fz_lst, fz_scr, fz_ins, fz_set, fz_ty, fz_gl, b_int, i_add, u_neg, u_inv, c_lt, c_le, c_gt, c_ge, c_eqI, c_neI, c_eqB, c_isN, c_notN, t_bl, t_int, t_non, t_tup, t_lst, x_tup, x_lst, x_scr, s_lst, s_scr,
  l_len1, l_len2, l_len3, l_int, l_abs, l_tup, l_tup2, l_list, l_list2, l_max, l_min, l_isi, nil_out, out_int, out_bl, out_tup, out_lst, out_scr, out_ins, out_non, out_bor, nO, tB, tI, back_eq, put_none,
  List.map_cons, List.map_nil, List.length_cons, List.length_nil, List.replicate, List.getElem?_cons_zero, List.getElem?_cons_succ, List.append_nil, List.nil_append, List.cons_append, List.set_cons_zero, List.set_cons_succ, Option.map_some, Option.isSome_some, Option.isSome_none, if_true, if_false, ite_true, ite_false, Bool.false_eq_true, reduceCtorEq, Nat.reduceAdd, Nat.reduceSub, Bool.not_true] <;> try dsimp only [Dx.D.fz, Dx.MV.fz])
  rw [decide_eq_false (show ¬ (c : Int) < 1 by omega)]
  (simp -dsimp only [evB, evS, evE, evT, evL, evA, evA1, evI, evP, evC, asgG, asgL, stoD, bind_eq, it_tup, it_lst, Nat.reduceLT, sz_0, sz_1, sz_2, sz_3, sz_4, sz_5, sz_6, sz_7, sz_8, wipe_nil, wipe_cons, Nat.zero_lt_succ, Nat.not_lt_zero, decide_true, decide_false, lift_some, thenF_nx, thenF_ret, back_none', fin_ret, fin_nx, startN,
  getVar_eq, gv_own, gv_int, gv_bl, gv_str, gv_non, gv_tup, gv_lst, gv_scr, gv_ins, keptAt_eq, kp_some, mi_own, mi_bor, mi_int, mi_bl, mi_str, mi_non, mi_tup, mi_lst, mi_scr, mi_ins, mvAt_eq, mv_some, mv_own, mv_bor, mv_int, mv_bl, mv_str, mv_non, mv_tup, mv_lst, mv_scr, mv_ins,
  fz_own, fz_l, fz_i, fzI, fz_bl, fz_str, fz_non, fzT, fz_lst, fz_scr, fz_ins, fz_set, fz_ty, fz_gl, b_int, i_add, u_neg, u_inv, c_lt, c_le, c_gt, c_ge, c_eqI, c_neI, c_eqB, c_isN, c_notN, t_bl, t_int, t_non, t_tup, t_lst, x_tup, x_lst, x_scr, s_lst, s_scr,
  l_len1, l_len2, l_len3, l_int, l_abs, l_tup, l_tup2, l_list, l_list2, l_max, l_min, l_isi, nil_out, out_int, out_bl, out_tup, out_lst, out_scr, out_ins, out_non, out_bor, nO, tB, tI, back_eq, put_none,
  List.map_cons, List.map_nil, List.length_cons, List.length_nil, List.replicate, List.getElem?_cons_zero, List.getElem?_cons_succ, List.append_nil, List.nil_append, List.cons_append, List.set_cons_zero, List.set_cons_succ, Option.map_some, Option.isSome_some, Option.isSome_none, if_true, if_false, ite_true, ite_false, Bool.false_eq_true, reduceCtorEq, Nat.reduceAdd, Nat.reduceSub] <;> try dsimp only [Dx.D.fz, Dx.MV.fz])
  rw [decide_eq_false (show ¬ (240 : Int) < (c : Int) by omega)]
  (simp -dsimp only [evB, evS, evE, evT, evL, evA, evA1, evI, evP, evC, asgG, asgL, stoD, bind_eq, it_tup, it_lst, Nat.reduceLT, sz_0, sz_1, sz_2, sz_3, sz_4, sz_5, sz_6, sz_7, sz_8, wipe_nil, wipe_cons, Nat.zero_lt_succ, Nat.not_lt_zero, decide_true, decide_false, lift_some, thenF_nx, thenF_ret, back_none', fin_ret, fin_nx, startN,
  getVar_eq, gv_own, gv_int, gv_bl, gv_str, gv_non, gv_tup, gv_lst, gv_scr, gv_ins, keptAt_eq, kp_some, mi_own, mi_bor, mi_int, mi_bl, mi_str, mi_non, mi_tup, mi_lst, mi_scr, mi_ins, mvAt_eq, mv_some, mv_own, mv_bor, mv_int, mv_bl, mv_str, mv_non, mv_tup, mv_lst, mv_scr, mv_ins,
  fz_own, fz_l, fz_i, fzI, fz_bl, fz_str, fz_non, fzT, fz_lst, fz_scr, fz_ins, fz_set, fz_ty, fz_gl, b_int, i_add, u_neg, u_inv, c_lt, c_le, c_gt, c_ge, c_eqI, c_neI, c_eqB, c_isN, c_notN, t_bl, t_int, t_non, t_tup, t_lst, x_tup, x_lst, x_scr, s_lst, s_scr,
  l_len1, l_len2, l_len3, l_int, l_abs, l_tup, l_tup2, l_list, l_list2, l_max, l_min, l_isi, nil_out, out_int, out_bl, out_tup, out_lst, out_scr, out_ins, out_non, out_bor, nO, tB, tI, back_eq, put_none,
  List.map_cons, List.map_nil, List.length_cons, List.length_nil, List.replicate, List.getElem?_cons_zero, List.getElem?_cons_succ, List.append_nil, List.nil_append, List.cons_append, List.set_cons_zero, List.set_cons_succ, Option.map_some, Option.isSome_some, Option.isSome_none, if_true, if_false, ite_true, ite_false, Bool.false_eq_true, reduceCtorEq, Nat.reduceAdd, Nat.reduceSub] <;> try dsimp only [Dx.D.fz, Dx.MV.fz])
theorem s_chkhrs {n c : Nat} {row : List Nat} (hn : 4 ≤ n) (hv : Valid c row) : RT n (.f "check_hours") [.int c, .tup (natsD row)] = .ok .non [] := by
  obtain ⟨j, rfl, hj⟩ := pos_of hn
  rw [RT, run_of t_chkhrs rfl]
  (simp -dsimp only [evB, evS, evE, evT, evL, evA, evA1, evI, evP, evC, asgG, asgL, stoD, bind_eq, it_tup, it_lst, Nat.reduceLT, sz_0, sz_1, sz_2, sz_3, sz_4, sz_5, sz_6, sz_7, sz_8, wipe_nil, wipe_cons, Nat.zero_lt_succ, Nat.not_lt_zero, decide_true, decide_false, lift_some, thenF_nx, thenF_ret, back_none', fin_ret, fin_nx, startN,
  getVar_eq, gv_own, gv_int, gv_bl, gv_str, gv_non, gv_tup, gv_lst, gv_scr, gv_ins, keptAt_eq, kp_some, mi_own, mi_bor, mi_int, mi_bl, mi_str, mi_non, mi_tup, mi_lst, mi_scr, mi_ins, mvAt_eq, mv_some, mv_own, mv_bor, mv_int, mv_bl, mv_str, mv_non, mv_tup, mv_lst, mv_scr, mv_ins,
  fz_own, fz_l, fz_i, fzI, fz_bl, fz_str, fz_non, fzT, fz_lst, fz_scr, fz_ins, fz_set, fz_ty, fz_gl, b_int, i_add, u_neg, u_inv, c_lt, c_le, c_gt, c_ge, c_eqI, c_neI, c_eqB, c_isN, c_notN, t_bl, t_int, t_non, t_tup, t_lst, x_tup, x_lst, x_scr, s_lst, s_scr,
  l_len1, l_len2, l_len3, l_int, l_abs, l_tup, l_tup2, l_list, l_list2, l_max, l_min, l_isi, nil_out, out_int, out_bl, out_tup, out_lst, out_scr, out_ins, out_non, out_bor, nO, tB, tI, back_eq, put_none,
  List.map_cons, List.map_nil, List.length_cons, List.length_nil, List.replicate, List.getElem?_cons_zero, List.getElem?_cons_succ, List.append_nil, List.nil_append, List.cons_append, List.set_cons_zero, List.set_cons_succ, Option.map_some, Option.isSome_some, Option.isSome_none, if_true, if_false, ite_true, ite_false, Bool.false_eq_true, reduceCtorEq, Nat.reduceAdd, Nat.reduceSub, isi_tup, Bool.not_true] <;> try dsimp only [Dx.D.fz, Dx.MV.fz])
  rw [calO_eq (bag_d (bag_d bag_nil)) (s_wrong hj hv)]
  (simp -dsimp only [evB, evS, evE, evT, evL, evA, evA1, evI, evP, evC, asgG, asgL, stoD, bind_eq, it_tup, it_lst, Nat.reduceLT, sz_0, sz_1, sz_2, sz_3, sz_4, sz_5, sz_6, sz_7, sz_8, wipe_nil, wipe_cons, Nat.zero_lt_succ, Nat.not_lt_zero, decide_true, decide_false, lift_some, thenF_nx, thenF_ret, back_none', fin_ret, fin_nx, startN,
  getVar_eq, gv_own, gv_int, gv_bl, gv_str, gv_non, gv_tup, gv_lst, gv_scr, gv_ins, keptAt_eq, kp_some, mi_own, mi_bor, mi_int, mi_bl, mi_str, mi_non, mi_tup, mi_lst, mi_scr, mi_ins, mvAt_eq, mv_some, mv_own, mv_bor, mv_int, mv_bl, mv_str, mv_non, mv_tup, mv_lst, mv_scr, mv_ins,
  fz_own, fz_l, fz_i, fzI, fz_bl, fz_str, fz_non, fzT, fz_lst, fz_scr, fz_ins, fz_set, fz_ty, fz_gl, b_int, i_add, u_neg, u_inv, c_lt, c_le, c_gt, c_ge, c_eqI, c_neI, c_eqB, c_isN, c_notN, t_bl, t_int, t_non, t_tup, t_lst, x_tup, x_lst, x_scr, s_lst, s_scr,
  l_len1, l_len2, l_len3, l_int, l_abs, l_tup, l_tup2, l_list, l_list2, l_max, l_min, l_isi, nil_out, out_int, out_bl, out_tup, out_lst, out_scr, out_ins, out_non, out_bor, nO, tB, tI, back_eq, put_none,
  List.map_cons, List.map_nil, List.length_cons, List.length_nil, List.replicate, List.getElem?_cons_zero, List.getElem?_cons_succ, List.append_nil, List.nil_append, List.cons_append, List.set_cons_zero, List.set_cons_succ, Option.map_some, Option.isSome_some, Option.isSome_none, if_true, if_false, ite_true, ite_false, Bool.false_eq_true, reduceCtorEq, Nat.reduceAdd, Nat.reduceSub, show D.isNon .non = true from rfl, Bool.not_true] <;> try dsimp only [Dx.D.fz, Dx.MV.fz])
theorem fo_bor {c f : Str} {d : D} {fs : List (Str × D)} {ρ : En} (h : fs.length < 1000) : fldO 0 c f d (some (.bor (.ins c fs)) :: ρ) = .ok () (some (.bor (.ins c (putD f d fs))) :: ρ) := by
  show (if c = c ∧ fs.length < 1000 then _ else _) = _
  rw [if_pos ⟨rfl, h⟩]
  rfl
theorem fo_0 {c f : Str} {d : D} {ρ : En} : fldO 0 c f d (some (.bor (.ins c [])) :: ρ) = .ok () (some (.bor (.ins c (putD f d []))) :: ρ) := fo_bor (by simp)
theorem fo_1 {c f : Str} {d : D} {p : Str × D} {ρ : En} : fldO 0 c f d (some (.bor (.ins c [p])) :: ρ) = .ok () (some (.bor (.ins c (putD f d [p]))) :: ρ) := fo_bor (by simp)
theorem fo_2 {c f : Str} {d : D} {p q : Str × D} {ρ : En} : fldO 0 c f d (some (.bor (.ins c [p, q])) :: ρ) = .ok () (some (.bor (.ins c (putD f d [p, q]))) :: ρ) := fo_bor (by simp)
theorem put_1 {c : Int} : putD "_clock" (.int c) [] = [(("_clock" : Str), D.int c)] := rfl
theorem put_2 {x y : D} : putD "_hours" y [(("_clock" : Str), x)] = [(("_clock" : Str), x), (("_hours" : Str), y)] := by
  unfold putD
  rw [if_neg (by decide +kernel)]
  rfl
theorem put_3 {x y z : D} : putD "_mask" z [(("_clock" : Str), x), (("_hours" : Str), y)] = [(("_clock" : Str), x), (("_hours" : Str), y), (("_mask" : Str), z)] := by
  unfold putD
  rw [if_neg (by decide +kernel)]
  unfold putD
  rw [if_neg (by decide +kernel)]
  rfl
theorem s_init {n c : Nat} {row : List Nat} (hn : 5 ≤ n) (hv : Valid c row) : RT n (.i "Hours") [.bor (.ins "Hours" []), .int c, .tup (natsD row)] = .ok .non [.ins "Hours" [(("_clock" : Str), .int (c : Int)), (("_hours" : Str), .tup (natsD row)), (("_mask" : Str), .int (maskN row : Nat))]] := by
  obtain ⟨j, rfl, hj⟩ := pos_of hn
  rw [RT, run_of t_init rfl]
  (simp -dsimp only [evB, evS, evE, evT, evL, evA, evA1, evI, evP, evC, asgG, asgL, stoD, bind_eq, it_tup, it_lst, Nat.reduceLT, sz_0, sz_1, sz_2, sz_3, sz_4, sz_5, sz_6, sz_7, sz_8, wipe_nil, wipe_cons, Nat.zero_lt_succ, Nat.not_lt_zero, decide_true, decide_false, lift_some, thenF_nx, thenF_ret, back_none', fin_ret, fin_nx, startN,
  getVar_eq, gv_own, gv_int, gv_bl, gv_str, gv_non, gv_tup, gv_lst, gv_scr, gv_ins, keptAt_eq, kp_some, mi_own, mi_bor, mi_int, mi_bl, mi_str, mi_non, mi_tup, mi_lst, mi_scr, mi_ins, mvAt_eq, mv_some, mv_own, mv_bor, mv_int, mv_bl, mv_str, mv_non, mv_tup, mv_lst, mv_scr, mv_ins,
  fz_own, fz_l, fz_i, fzI, fz_bl, fz_str, fz_non, fzT, fz_lst, fz_scr, fz_ins, fz_set, fz_ty, fz_gl, b_int, i_add, u_neg, u_inv, c_lt, c_le, c_gt, c_ge, c_eqI, c_neI, c_eqB, c_isN, c_notN, t_bl, t_int, t_non, t_tup, t_lst, x_tup, x_lst, x_scr, s_lst, s_scr,
  l_len1, l_len2, l_len3, l_int, l_abs, l_tup, l_tup2, l_list, l_list2, l_max, l_min, l_isi, nil_out, out_int, out_bl, out_tup, out_lst, out_scr, out_ins, out_non, out_bor, nO, tB, tI, back_eq, put_none,
  List.map_cons, List.map_nil, List.length_cons, List.length_nil, List.replicate, List.getElem?_cons_zero, List.getElem?_cons_succ, List.append_nil, List.nil_append, List.cons_append, List.set_cons_zero, List.set_cons_succ, Option.map_some, Option.isSome_some, Option.isSome_none, if_true, if_false, ite_true, ite_false, Bool.false_eq_true, reduceCtorEq, Nat.reduceAdd, Nat.reduceSub] <;> try dsimp only [Dx.D.fz, Dx.MV.fz])
  rw [calO_eq (bag_d (bag_d bag_nil)) (s_chkclk (by omega) hv.pos hv.le)]
  (simp -dsimp only [evB, evS, evE, evT, evL, evA, evA1, evI, evP, evC, asgG, asgL, stoD, bind_eq, it_tup, it_lst, Nat.reduceLT, sz_0, sz_1, sz_2, sz_3, sz_4, sz_5, sz_6, sz_7, sz_8, wipe_nil, wipe_cons, Nat.zero_lt_succ, Nat.not_lt_zero, decide_true, decide_false, lift_some, thenF_nx, thenF_ret, back_none', fin_ret, fin_nx, startN,
  getVar_eq, gv_own, gv_int, gv_bl, gv_str, gv_non, gv_tup, gv_lst, gv_scr, gv_ins, keptAt_eq, kp_some, mi_own, mi_bor, mi_int, mi_bl, mi_str, mi_non, mi_tup, mi_lst, mi_scr, mi_ins, mvAt_eq, mv_some, mv_own, mv_bor, mv_int, mv_bl, mv_str, mv_non, mv_tup, mv_lst, mv_scr, mv_ins,
  fz_own, fz_l, fz_i, fzI, fz_bl, fz_str, fz_non, fzT, fz_lst, fz_scr, fz_ins, fz_set, fz_ty, fz_gl, b_int, i_add, u_neg, u_inv, c_lt, c_le, c_gt, c_ge, c_eqI, c_neI, c_eqB, c_isN, c_notN, t_bl, t_int, t_non, t_tup, t_lst, x_tup, x_lst, x_scr, s_lst, s_scr,
  l_len1, l_len2, l_len3, l_int, l_abs, l_tup, l_tup2, l_list, l_list2, l_max, l_min, l_isi, nil_out, out_int, out_bl, out_tup, out_lst, out_scr, out_ins, out_non, out_bor, nO, tB, tI, back_eq, put_none,
  List.map_cons, List.map_nil, List.length_cons, List.length_nil, List.replicate, List.getElem?_cons_zero, List.getElem?_cons_succ, List.append_nil, List.nil_append, List.cons_append, List.set_cons_zero, List.set_cons_succ, Option.map_some, Option.isSome_some, Option.isSome_none, if_true, if_false, ite_true, ite_false, Bool.false_eq_true, reduceCtorEq, Nat.reduceAdd, Nat.reduceSub] <;> try dsimp only [Dx.D.fz, Dx.MV.fz])
  rw [calO_eq (bag_d (bag_d bag_nil)) (s_chkhrs hj hv)]
  (simp -dsimp only [evB, evS, evE, evT, evL, evA, evA1, evI, evP, evC, asgG, asgL, stoD, bind_eq, it_tup, it_lst, Nat.reduceLT, sz_0, sz_1, sz_2, sz_3, sz_4, sz_5, sz_6, sz_7, sz_8, wipe_nil, wipe_cons, Nat.zero_lt_succ, Nat.not_lt_zero, decide_true, decide_false, lift_some, thenF_nx, thenF_ret, back_none', fin_ret, fin_nx, startN,
  getVar_eq, gv_own, gv_int, gv_bl, gv_str, gv_non, gv_tup, gv_lst, gv_scr, gv_ins, keptAt_eq, kp_some, mi_own, mi_bor, mi_int, mi_bl, mi_str, mi_non, mi_tup, mi_lst, mi_scr, mi_ins, mvAt_eq, mv_some, mv_own, mv_bor, mv_int, mv_bl, mv_str, mv_non, mv_tup, mv_lst, mv_scr, mv_ins,
  fz_own, fz_l, fz_i, fzI, fz_bl, fz_str, fz_non, fzT, fz_lst, fz_scr, fz_ins, fz_set, fz_ty, fz_gl, b_int, i_add, u_neg, u_inv, c_lt, c_le, c_gt, c_ge, c_eqI, c_neI, c_eqB, c_isN, c_notN, t_bl, t_int, t_non, t_tup, t_lst, x_tup, x_lst, x_scr, s_lst, s_scr,
  l_len1, l_len2, l_len3, l_int, l_abs, l_tup, l_tup2, l_list, l_list2, l_max, l_min, l_isi, nil_out, out_int, out_bl, out_tup, out_lst, out_scr, out_ins, out_non, out_bor, nO, tB, tI, back_eq, put_none,
  List.map_cons, List.map_nil, List.length_cons, List.length_nil, List.replicate, List.getElem?_cons_zero, List.getElem?_cons_succ, List.append_nil, List.nil_append, List.cons_append, List.set_cons_zero, List.set_cons_succ, Option.map_some, Option.isSome_some, Option.isSome_none, if_true, if_false, ite_true, ite_false, Bool.false_eq_true, reduceCtorEq, Nat.reduceAdd, Nat.reduceSub, fo_0, put_1, fo_1, put_2] <;> try dsimp only [Dx.D.fz, Dx.MV.fz])
  rw [calO_eq (bag_d bag_nil) (s_mask (by omega) fun k hk => by have := hv.lt k hk; have := hv.le; omega)]
  (simp -dsimp only [evB, evS, evE, evT, evL, evA, evA1, evI, evP, evC, asgG, asgL, stoD, bind_eq, it_tup, it_lst, Nat.reduceLT, sz_0, sz_1, sz_2, sz_3, sz_4, sz_5, sz_6, sz_7, sz_8, wipe_nil, wipe_cons, Nat.zero_lt_succ, Nat.not_lt_zero, decide_true, decide_false, lift_some, thenF_nx, thenF_ret, back_none', fin_ret, fin_nx, startN,
  getVar_eq, gv_own, gv_int, gv_bl, gv_str, gv_non, gv_tup, gv_lst, gv_scr, gv_ins, keptAt_eq, kp_some, mi_own, mi_bor, mi_int, mi_bl, mi_str, mi_non, mi_tup, mi_lst, mi_scr, mi_ins, mvAt_eq, mv_some, mv_own, mv_bor, mv_int, mv_bl, mv_str, mv_non, mv_tup, mv_lst, mv_scr, mv_ins,
  fz_own, fz_l, fz_i, fzI, fz_bl, fz_str, fz_non, fzT, fz_lst, fz_scr, fz_ins, fz_set, fz_ty, fz_gl, b_int, i_add, u_neg, u_inv, c_lt, c_le, c_gt, c_ge, c_eqI, c_neI, c_eqB, c_isN, c_notN, t_bl, t_int, t_non, t_tup, t_lst, x_tup, x_lst, x_scr, s_lst, s_scr,
  l_len1, l_len2, l_len3, l_int, l_abs, l_tup, l_tup2, l_list, l_list2, l_max, l_min, l_isi, nil_out, out_int, out_bl, out_tup, out_lst, out_scr, out_ins, out_non, out_bor, nO, tB, tI, back_eq, put_none,
  List.map_cons, List.map_nil, List.length_cons, List.length_nil, List.replicate, List.getElem?_cons_zero, List.getElem?_cons_succ, List.append_nil, List.nil_append, List.cons_append, List.set_cons_zero, List.set_cons_succ, Option.map_some, Option.isSome_some, Option.isSome_none, if_true, if_false, ite_true, ite_false, Bool.false_eq_true, reduceCtorEq, Nat.reduceAdd, Nat.reduceSub, fo_2, put_3] <;> try dsimp only [Dx.D.fz, Dx.MV.fz])
theorem mak_hours {n c : Nat} {row : List Nat} {ρ : En} (hn : 5 ≤ n) (hv : Valid c row) : makO (RT n) "Hours" [.int c, .tup (natsD row)] ρ = .ok (.own (.ins "Hours" [(("_clock" : Str), .int (c : Int)), (("_hours" : Str), .tup (natsD row)), (("_mask" : Str), .int (maskN row : Nat))])) ρ := by
  unfold makO
  rw [s_init hn hv]
theorem valid_bits {c x : Nat} (h1 : 1 ≤ c) (h2 : c ≤ 240) (hx : x < 2 ^ c) : Valid c (bitsL x) := ⟨h1, h2, asc_bitsL x, fun k hk => bit_lt hx hk⟩
theorem s_ofmask {n c x : Nat} (hn : 6 ≤ n) (h1 : 1 ≤ c) (h2 : c ≤ 240) (hx : x < 2 ^ c) : RT n (.f "of_mask") [.int c, .int x] = .ok (.own (.ins "Hours" [(("_clock" : Str), .int (c : Int)), (("_hours" : Str), .tup (natsD (bitsL x))), (("_mask" : Str), .int (x : Nat))])) [] := by
  obtain ⟨j, rfl, hj⟩ := pos_of hn
  rw [RT, run_of t_ofmask rfl]
  (simp -dsimp only [evB, evS, evE, evT, evL, evA, evA1, evI, evP, evC, asgG, asgL, stoD, bind_eq, it_tup, it_lst, Nat.reduceLT, sz_0, sz_1, sz_2, sz_3, sz_4, sz_5, sz_6, sz_7, sz_8, wipe_nil, wipe_cons, Nat.zero_lt_succ, Nat.not_lt_zero, decide_true, decide_false, lift_some, thenF_nx, thenF_ret, back_none', fin_ret, fin_nx, startN,
  getVar_eq, gv_own, gv_int, gv_bl, gv_str, gv_non, gv_tup, gv_lst, gv_scr, gv_ins, keptAt_eq, kp_some, mi_own, mi_bor, mi_int, mi_bl, mi_str, mi_non, mi_tup, mi_lst, mi_scr, mi_ins, mvAt_eq, mv_some, mv_own, mv_bor, mv_int, mv_bl, mv_str, mv_non, mv_tup, mv_lst, mv_scr, mv_ins,
  fz_own, fz_l, fz_i, fzI, fz_bl, fz_str, fz_non, fzT, fz_lst, fz_scr, fz_ins, fz_set, fz_ty, fz_gl, b_int, i_add, u_neg, u_inv, c_lt, c_le, c_gt, c_ge, c_eqI, c_neI, c_eqB, c_isN, c_notN, t_bl, t_int, t_non, t_tup, t_lst, x_tup, x_lst, x_scr, s_lst, s_scr,
  l_len1, l_len2, l_len3, l_int, l_abs, l_tup, l_tup2, l_list, l_list2, l_max, l_min, l_isi, nil_out, out_int, out_bl, out_tup, out_lst, out_scr, out_ins, out_non, out_bor, nO, tB, tI, back_eq, put_none,
  List.map_cons, List.map_nil, List.length_cons, List.length_nil, List.replicate, List.getElem?_cons_zero, List.getElem?_cons_succ, List.append_nil, List.nil_append, List.cons_append, List.set_cons_zero, List.set_cons_succ, Option.map_some, Option.isSome_some, Option.isSome_none, if_true, if_false, ite_true, ite_false, Bool.false_eq_true, reduceCtorEq, Nat.reduceAdd, Nat.reduceSub] <;> try dsimp only [Dx.D.fz, Dx.MV.fz])
  rw [calO_eq (bag_d bag_nil) (s_hours (e := c) (by omega) (by omega) hx)]
  (simp -dsimp only [evB, evS, evE, evT, evL, evA, evA1, evI, evP, evC, asgG, asgL, stoD, bind_eq, it_tup, it_lst, Nat.reduceLT, sz_0, sz_1, sz_2, sz_3, sz_4, sz_5, sz_6, sz_7, sz_8, wipe_nil, wipe_cons, Nat.zero_lt_succ, Nat.not_lt_zero, decide_true, decide_false, lift_some, thenF_nx, thenF_ret, back_none', fin_ret, fin_nx, startN,
  getVar_eq, gv_own, gv_int, gv_bl, gv_str, gv_non, gv_tup, gv_lst, gv_scr, gv_ins, keptAt_eq, kp_some, mi_own, mi_bor, mi_int, mi_bl, mi_str, mi_non, mi_tup, mi_lst, mi_scr, mi_ins, mvAt_eq, mv_some, mv_own, mv_bor, mv_int, mv_bl, mv_str, mv_non, mv_tup, mv_lst, mv_scr, mv_ins,
  fz_own, fz_l, fz_i, fzI, fz_bl, fz_str, fz_non, fzT, fz_lst, fz_scr, fz_ins, fz_set, fz_ty, fz_gl, b_int, i_add, u_neg, u_inv, c_lt, c_le, c_gt, c_ge, c_eqI, c_neI, c_eqB, c_isN, c_notN, t_bl, t_int, t_non, t_tup, t_lst, x_tup, x_lst, x_scr, s_lst, s_scr,
  l_len1, l_len2, l_len3, l_int, l_abs, l_tup, l_tup2, l_list, l_list2, l_max, l_min, l_isi, nil_out, out_int, out_bl, out_tup, out_lst, out_scr, out_ins, out_non, out_bor, nO, tB, tI, back_eq, put_none,
  List.map_cons, List.map_nil, List.length_cons, List.length_nil, List.replicate, List.getElem?_cons_zero, List.getElem?_cons_succ, List.append_nil, List.nil_append, List.cons_append, List.set_cons_zero, List.set_cons_succ, Option.map_some, Option.isSome_some, Option.isSome_none, if_true, if_false, ite_true, ite_false, Bool.false_eq_true, reduceCtorEq, Nat.reduceAdd, Nat.reduceSub] <;> try dsimp only [Dx.D.fz, Dx.MV.fz])
  rw [mak_hours hj (valid_bits h1 h2 hx), maskN_bitsL]
  (simp -dsimp only [evB, evS, evE, evT, evL, evA, evA1, evI, evP, evC, asgG, asgL, stoD, bind_eq, it_tup, it_lst, Nat.reduceLT, sz_0, sz_1, sz_2, sz_3, sz_4, sz_5, sz_6, sz_7, sz_8, wipe_nil, wipe_cons, Nat.zero_lt_succ, Nat.not_lt_zero, decide_true, decide_false, lift_some, thenF_nx, thenF_ret, back_none', fin_ret, fin_nx, startN,
  getVar_eq, gv_own, gv_int, gv_bl, gv_str, gv_non, gv_tup, gv_lst, gv_scr, gv_ins, keptAt_eq, kp_some, mi_own, mi_bor, mi_int, mi_bl, mi_str, mi_non, mi_tup, mi_lst, mi_scr, mi_ins, mvAt_eq, mv_some, mv_own, mv_bor, mv_int, mv_bl, mv_str, mv_non, mv_tup, mv_lst, mv_scr, mv_ins,
  fz_own, fz_l, fz_i, fzI, fz_bl, fz_str, fz_non, fzT, fz_lst, fz_scr, fz_ins, fz_set, fz_ty, fz_gl, b_int, i_add, u_neg, u_inv, c_lt, c_le, c_gt, c_ge, c_eqI, c_neI, c_eqB, c_isN, c_notN, t_bl, t_int, t_non, t_tup, t_lst, x_tup, x_lst, x_scr, s_lst, s_scr,
  l_len1, l_len2, l_len3, l_int, l_abs, l_tup, l_tup2, l_list, l_list2, l_max, l_min, l_isi, nil_out, out_int, out_bl, out_tup, out_lst, out_scr, out_ins, out_non, out_bor, nO, tB, tI, back_eq, put_none,
  List.map_cons, List.map_nil, List.length_cons, List.length_nil, List.replicate, List.getElem?_cons_zero, List.getElem?_cons_succ, List.append_nil, List.nil_append, List.cons_append, List.set_cons_zero, List.set_cons_succ, Option.map_some, Option.isSome_some, Option.isSome_none, if_true, if_false, ite_true, ite_false, Bool.false_eq_true, reduceCtorEq, Nat.reduceAdd, Nat.reduceSub] <;> try dsimp only [Dx.D.fz, Dx.MV.fz])
theorem lk_c {n : Nat} {row : List Nat} : ([(("_clock" : Str), D.int (n : Int)), (("_hours" : Str), .tup (natsD row)), (("_mask" : Str), .int (maskN row : Nat))] : List (Str × D)).lookup ("_clock" : Str) = some (D.int (n : Int)) := rfl
theorem lk_h {x y z : D} : ([(("_clock" : Str), x), (("_hours" : Str), y), (("_mask" : Str), z)] : List (Str × D)).lookup ("_hours" : Str) = some y := by
  rw [List.lookup_cons, show (("_hours" : Str) == "_clock") = false by decide +kernel]
  rw [List.lookup_cons, show (("_hours" : Str) == "_hours") = true by decide +kernel]
theorem lk_m {x y z : D} : ([(("_clock" : Str), x), (("_hours" : Str), y), (("_mask" : Str), z)] : List (Str × D)).lookup ("_mask" : Str) = some z := by
  rw [List.lookup_cons, show (("_mask" : Str) == "_clock") = false by decide +kernel]
  rw [List.lookup_cons, show (("_mask" : Str) == "_hours") = false by decide +kernel]
  rw [List.lookup_cons, show (("_mask" : Str) == "_mask") = true by decide +kernel]
theorem s_clock {n c : Nat} {row : List Nat} (hn : 1 ≤ n) : RT n (.p "Hours" "clock") [hoursD c row] = .ok (.int (c : Int)) [] := by
  obtain ⟨j, rfl, hj⟩ := pos_of hn
  rw [RT, run_of t_clock rfl]
  (simp -dsimp only [evB, evS, evE, evT, evL, evA, evA1, evI, evP, evC, asgG, asgL, stoD, bind_eq, it_tup, it_lst, Nat.reduceLT, sz_0, sz_1, sz_2, sz_3, sz_4, sz_5, sz_6, sz_7, sz_8, wipe_nil, wipe_cons, Nat.zero_lt_succ, Nat.not_lt_zero, decide_true, decide_false, lift_some, thenF_nx, thenF_ret, back_none', fin_ret, fin_nx, startN,
  getVar_eq, gv_own, gv_int, gv_bl, gv_str, gv_non, gv_tup, gv_lst, gv_scr, gv_ins, keptAt_eq, kp_some, mi_own, mi_bor, mi_int, mi_bl, mi_str, mi_non, mi_tup, mi_lst, mi_scr, mi_ins, mvAt_eq, mv_some, mv_own, mv_bor, mv_int, mv_bl, mv_str, mv_non, mv_tup, mv_lst, mv_scr, mv_ins,
  fz_own, fz_l, fz_i, fzI, fz_bl, fz_str, fz_non, fzT, fz_lst, fz_scr, fz_ins, fz_set, fz_ty, fz_gl, b_int, i_add, u_neg, u_inv, c_lt, c_le, c_gt, c_ge, c_eqI, c_neI, c_eqB, c_isN, c_notN, t_bl, t_int, t_non, t_tup, t_lst, x_tup, x_lst, x_scr, s_lst, s_scr,
  l_len1, l_len2, l_len3, l_int, l_abs, l_tup, l_tup2, l_list, l_list2, l_max, l_min, l_isi, nil_out, out_int, out_bl, out_tup, out_lst, out_scr, out_ins, out_non, out_bor, nO, tB, tI, back_eq, put_none,
  List.map_cons, List.map_nil, List.length_cons, List.length_nil, List.replicate, List.getElem?_cons_zero, List.getElem?_cons_succ, List.append_nil, List.nil_append, List.cons_append, List.set_cons_zero, List.set_cons_succ, Option.map_some, Option.isSome_some, Option.isSome_none, if_true, if_false, ite_true, ite_false, Bool.false_eq_true, reduceCtorEq, Nat.reduceAdd, Nat.reduceSub, fg lk_c] <;> try dsimp only [Dx.D.fz, Dx.MV.fz])
theorem s_hrs {n c : Nat} {row : List Nat} (hn : 1 ≤ n) : RT n (.p "Hours" "hours") [hoursD c row] = .ok (.tup (natsD row)) [] := by
  obtain ⟨j, rfl, hj⟩ := pos_of hn
  rw [RT, run_of t_hrs rfl]
  (simp -dsimp only [evB, evS, evE, evT, evL, evA, evA1, evI, evP, evC, asgG, asgL, stoD, bind_eq, it_tup, it_lst, Nat.reduceLT, sz_0, sz_1, sz_2, sz_3, sz_4, sz_5, sz_6, sz_7, sz_8, wipe_nil, wipe_cons, Nat.zero_lt_succ, Nat.not_lt_zero, decide_true, decide_false, lift_some, thenF_nx, thenF_ret, back_none', fin_ret, fin_nx, startN,
  getVar_eq, gv_own, gv_int, gv_bl, gv_str, gv_non, gv_tup, gv_lst, gv_scr, gv_ins, keptAt_eq, kp_some, mi_own, mi_bor, mi_int, mi_bl, mi_str, mi_non, mi_tup, mi_lst, mi_scr, mi_ins, mvAt_eq, mv_some, mv_own, mv_bor, mv_int, mv_bl, mv_str, mv_non, mv_tup, mv_lst, mv_scr, mv_ins,
  fz_own, fz_l, fz_i, fzI, fz_bl, fz_str, fz_non, fzT, fz_lst, fz_scr, fz_ins, fz_set, fz_ty, fz_gl, b_int, i_add, u_neg, u_inv, c_lt, c_le, c_gt, c_ge, c_eqI, c_neI, c_eqB, c_isN, c_notN, t_bl, t_int, t_non, t_tup, t_lst, x_tup, x_lst, x_scr, s_lst, s_scr,
  l_len1, l_len2, l_len3, l_int, l_abs, l_tup, l_tup2, l_list, l_list2, l_max, l_min, l_isi, nil_out, out_int, out_bl, out_tup, out_lst, out_scr, out_ins, out_non, out_bor, nO, tB, tI, back_eq, put_none,
  List.map_cons, List.map_nil, List.length_cons, List.length_nil, List.replicate, List.getElem?_cons_zero, List.getElem?_cons_succ, List.append_nil, List.nil_append, List.cons_append, List.set_cons_zero, List.set_cons_succ, Option.map_some, Option.isSome_some, Option.isSome_none, if_true, if_false, ite_true, ite_false, Bool.false_eq_true, reduceCtorEq, Nat.reduceAdd, Nat.reduceSub, fg lk_h] <;> try dsimp only [Dx.D.fz, Dx.MV.fz])
theorem isi_hours {fs : List (Str × D)} : isiD (.ins "Hours" fs) (.gl "Hours") = some true := by
  show some (decide _) = _
  rw [decide_eq_true rfl]
theorem s_chk1 {n c : Nat} {row : List Nat} (hn : 1 ≤ n) : RT n (.f "check_one") [hoursD c row] = .ok .non [] := by
  obtain ⟨j, rfl, hj⟩ := pos_of hn
  rw [RT, run_of t_chk1 rfl]
  (simp -dsimp only [evB, evS, evE, evT, evL, evA, evA1, evI, evP, evC, asgG, asgL, stoD, bind_eq, it_tup, it_lst, Nat.reduceLT, sz_0, sz_1, sz_2, sz_3, sz_4, sz_5, sz_6, sz_7, sz_8, wipe_nil, wipe_cons, Nat.zero_lt_succ, Nat.not_lt_zero, decide_true, decide_false, lift_some, thenF_nx, thenF_ret, back_none', fin_ret, fin_nx, startN,
  getVar_eq, gv_own, gv_int, gv_bl, gv_str, gv_non, gv_tup, gv_lst, gv_scr, gv_ins, keptAt_eq, kp_some, mi_own, mi_bor, mi_int, mi_bl, mi_str, mi_non, mi_tup, mi_lst, mi_scr, mi_ins, mvAt_eq, mv_some, mv_own, mv_bor, mv_int, mv_bl, mv_str, mv_non, mv_tup, mv_lst, mv_scr, mv_ins,
  fz_own, fz_l, fz_i, fzI, fz_bl, fz_str, fz_non, fzT, fz_lst, fz_scr, fz_ins, fz_set, fz_ty, fz_gl, b_int, i_add, u_neg, u_inv, c_lt, c_le, c_gt, c_ge, c_eqI, c_neI, c_eqB, c_isN, c_notN, t_bl, t_int, t_non, t_tup, t_lst, x_tup, x_lst, x_scr, s_lst, s_scr,
  l_len1, l_len2, l_len3, l_int, l_abs, l_tup, l_tup2, l_list, l_list2, l_max, l_min, l_isi, nil_out, out_int, out_bl, out_tup, out_lst, out_scr, out_ins, out_non, out_bor, nO, tB, tI, back_eq, put_none,
  List.map_cons, List.map_nil, List.length_cons, List.length_nil, List.replicate, List.getElem?_cons_zero, List.getElem?_cons_succ, List.append_nil, List.nil_append, List.cons_append, List.set_cons_zero, List.set_cons_succ, Option.map_some, Option.isSome_some, Option.isSome_none, if_true, if_false, ite_true, ite_false, Bool.false_eq_true, reduceCtorEq, Nat.reduceAdd, Nat.reduceSub, isi_hours, Bool.not_true] <;> try dsimp only [Dx.D.fz, Dx.MV.fz])
theorem prp {C : Cal} {c f : Str} {fs : List (Str × D)} {ρ : En} {d : D} {o : List MV} (h : C (.p c f) [.ins c fs] = .ok d o) : prpO C (.ins c fs) f ρ = .ok d ρ := by
  show back ρ none _ = _
  rw [h]; rfl
theorem s_chk2 {n c : Nat} {row : List Nat} (hn : 2 ≤ n) : RT n (.f "check_other") [.int c, hoursD c row] = .ok .non [] := by
  obtain ⟨j, rfl, hj⟩ := pos_of hn
  rw [RT, run_of t_chk2 rfl]
  (simp -dsimp only [evB, evS, evE, evT, evL, evA, evA1, evI, evP, evC, asgG, asgL, stoD, bind_eq, it_tup, it_lst, Nat.reduceLT, sz_0, sz_1, sz_2, sz_3, sz_4, sz_5, sz_6, sz_7, sz_8, wipe_nil, wipe_cons, Nat.zero_lt_succ, Nat.not_lt_zero, decide_true, decide_false, lift_some, thenF_nx, thenF_ret, back_none', fin_ret, fin_nx, startN,
  getVar_eq, gv_own, gv_int, gv_bl, gv_str, gv_non, gv_tup, gv_lst, gv_scr, gv_ins, keptAt_eq, kp_some, mi_own, mi_bor, mi_int, mi_bl, mi_str, mi_non, mi_tup, mi_lst, mi_scr, mi_ins, mvAt_eq, mv_some, mv_own, mv_bor, mv_int, mv_bl, mv_str, mv_non, mv_tup, mv_lst, mv_scr, mv_ins,
  fz_own, fz_l, fz_i, fzI, fz_bl, fz_str, fz_non, fzT, fz_lst, fz_scr, fz_ins, fz_set, fz_ty, fz_gl, b_int, i_add, u_neg, u_inv, c_lt, c_le, c_gt, c_ge, c_eqI, c_neI, c_eqB, c_isN, c_notN, t_bl, t_int, t_non, t_tup, t_lst, x_tup, x_lst, x_scr, s_lst, s_scr,
  l_len1, l_len2, l_len3, l_int, l_abs, l_tup, l_tup2, l_list, l_list2, l_max, l_min, l_isi, nil_out, out_int, out_bl, out_tup, out_lst, out_scr, out_ins, out_non, out_bor, nO, tB, tI, back_eq, put_none,
  List.map_cons, List.map_nil, List.length_cons, List.length_nil, List.replicate, List.getElem?_cons_zero, List.getElem?_cons_succ, List.append_nil, List.nil_append, List.cons_append, List.set_cons_zero, List.set_cons_succ, Option.map_some, Option.isSome_some, Option.isSome_none, if_true, if_false, ite_true, ite_false, Bool.false_eq_true, reduceCtorEq, Nat.reduceAdd, Nat.reduceSub] <;> try dsimp only [Dx.D.fz, Dx.MV.fz])
  rw [calO_eq (bag_d bag_nil) (s_chk1 hj)]
  (simp -dsimp only [evB, evS, evE, evT, evL, evA, evA1, evI, evP, evC, asgG, asgL, stoD, bind_eq, it_tup, it_lst, Nat.reduceLT, sz_0, sz_1, sz_2, sz_3, sz_4, sz_5, sz_6, sz_7, sz_8, wipe_nil, wipe_cons, Nat.zero_lt_succ, Nat.not_lt_zero, decide_true, decide_false, lift_some, thenF_nx, thenF_ret, back_none', fin_ret, fin_nx, startN,
  getVar_eq, gv_own, gv_int, gv_bl, gv_str, gv_non, gv_tup, gv_lst, gv_scr, gv_ins, keptAt_eq, kp_some, mi_own, mi_bor, mi_int, mi_bl, mi_str, mi_non, mi_tup, mi_lst, mi_scr, mi_ins, mvAt_eq, mv_some, mv_own, mv_bor, mv_int, mv_bl, mv_str, mv_non, mv_tup, mv_lst, mv_scr, mv_ins,
  fz_own, fz_l, fz_i, fzI, fz_bl, fz_str, fz_non, fzT, fz_lst, fz_scr, fz_ins, fz_set, fz_ty, fz_gl, b_int, i_add, u_neg, u_inv, c_lt, c_le, c_gt, c_ge, c_eqI, c_neI, c_eqB, c_isN, c_notN, t_bl, t_int, t_non, t_tup, t_lst, x_tup, x_lst, x_scr, s_lst, s_scr,
  l_len1, l_len2, l_len3, l_int, l_abs, l_tup, l_tup2, l_list, l_list2, l_max, l_min, l_isi, nil_out, out_int, out_bl, out_tup, out_lst, out_scr, out_ins, out_non, out_bor, nO, tB, tI, back_eq, put_none,
  List.map_cons, List.map_nil, List.length_cons, List.length_nil, List.replicate, List.getElem?_cons_zero, List.getElem?_cons_succ, List.append_nil, List.nil_append, List.cons_append, List.set_cons_zero, List.set_cons_succ, Option.map_some, Option.isSome_some, Option.isSome_none, if_true, if_false, ite_true, ite_false, Bool.false_eq_true, reduceCtorEq, Nat.reduceAdd, Nat.reduceSub] <;> try dsimp only [Dx.D.fz, Dx.MV.fz])
  rw [prp (s_clock hj)]
  (simp -dsimp only [evB, evS, evE, evT, evL, evA, evA1, evI, evP, evC, asgG, asgL, stoD, bind_eq, it_tup, it_lst, Nat.reduceLT, sz_0, sz_1, sz_2, sz_3, sz_4, sz_5, sz_6, sz_7, sz_8, wipe_nil, wipe_cons, Nat.zero_lt_succ, Nat.not_lt_zero, decide_true, decide_false, lift_some, thenF_nx, thenF_ret, back_none', fin_ret, fin_nx, startN,
  getVar_eq, gv_own, gv_int, gv_bl, gv_str, gv_non, gv_tup, gv_lst, gv_scr, gv_ins, keptAt_eq, kp_some, mi_own, mi_bor, mi_int, mi_bl, mi_str, mi_non, mi_tup, mi_lst, mi_scr, mi_ins, mvAt_eq, mv_some, mv_own, mv_bor, mv_int, mv_bl, mv_str, mv_non, mv_tup, mv_lst, mv_scr, mv_ins,
  fz_own, fz_l, fz_i, fzI, fz_bl, fz_str, fz_non, fzT, fz_lst, fz_scr, fz_ins, fz_set, fz_ty, fz_gl, b_int, i_add, u_neg, u_inv, c_lt, c_le, c_gt, c_ge, c_eqI, c_neI, c_eqB, c_isN, c_notN, t_bl, t_int, t_non, t_tup, t_lst, x_tup, x_lst, x_scr, s_lst, s_scr,
  l_len1, l_len2, l_len3, l_int, l_abs, l_tup, l_tup2, l_list, l_list2, l_max, l_min, l_isi, nil_out, out_int, out_bl, out_tup, out_lst, out_scr, out_ins, out_non, out_bor, nO, tB, tI, back_eq, put_none,
  List.map_cons, List.map_nil, List.length_cons, List.length_nil, List.replicate, List.getElem?_cons_zero, List.getElem?_cons_succ, List.append_nil, List.nil_append, List.cons_append, List.set_cons_zero, List.set_cons_succ, Option.map_some, Option.isSome_some, Option.isSome_none, if_true, if_false, ite_true, ite_false, Bool.false_eq_true, reduceCtorEq, Nat.reduceAdd, Nat.reduceSub, decide_true, Bool.not_true] <;> try dsimp only [Dx.D.fz, Dx.MV.fz])

theorem s_maskL {n : Nat} {hs : List Nat} (hn : 1 ≤ n) (hb : ∀ k, k ∈ hs → k < 1000) : RT n (.f "mask_of") [.lst (natsD hs)] = .ok (.int (maskN hs : Nat)) [] := by
  obtain ⟨j, rfl, hj⟩ := pos_of hn
  rw [RT, run_of t_mask rfl]
  (simp -dsimp only [evB, evS, evE, evT, evL, evA, evA1, evI, evP, evC, asgG, asgL, stoD, bind_eq, it_tup, it_lst, Nat.reduceLT, sz_0, sz_1, sz_2, sz_3, sz_4, sz_5, sz_6, sz_7, sz_8, wipe_nil, wipe_cons, Nat.zero_lt_succ, Nat.not_lt_zero, decide_true, decide_false, lift_some, thenF_nx, thenF_ret, back_none', fin_ret, fin_nx, startN,
  getVar_eq, gv_own, gv_int, gv_bl, gv_str, gv_non, gv_tup, gv_lst, gv_scr, gv_ins, keptAt_eq, kp_some, mi_own, mi_bor, mi_int, mi_bl, mi_str, mi_non, mi_tup, mi_lst, mi_scr, mi_ins, mvAt_eq, mv_some, mv_own, mv_bor, mv_int, mv_bl, mv_str, mv_non, mv_tup, mv_lst, mv_scr, mv_ins,
  fz_own, fz_l, fz_i, fzI, fz_bl, fz_str, fz_non, fzT, fz_lst, fz_scr, fz_ins, fz_set, fz_ty, fz_gl, b_int, i_add, u_neg, u_inv, c_lt, c_le, c_gt, c_ge, c_eqI, c_neI, c_eqB, c_isN, c_notN, t_bl, t_int, t_non, t_tup, t_lst, x_tup, x_lst, x_scr, s_lst, s_scr,
  l_len1, l_len2, l_len3, l_int, l_abs, l_tup, l_tup2, l_list, l_list2, l_max, l_min, l_isi, nil_out, out_int, out_bl, out_tup, out_lst, out_scr, out_ins, out_non, out_bor, nO, tB, tI, back_eq, put_none,
  List.map_cons, List.map_nil, List.length_cons, List.length_nil, List.replicate, List.getElem?_cons_zero, List.getElem?_cons_succ, List.append_nil, List.nil_append, List.cons_append, List.set_cons_zero, List.set_cons_succ, Option.map_some, Option.isSome_some, Option.isSome_none, if_true, if_false, ite_true, ite_false, Bool.false_eq_true, reduceCtorEq, Nat.reduceAdd, Nat.reduceSub] <;> try dsimp only [Dx.D.fz, Dx.MV.fz])
  refine fin_for (fun a o => [some (.lst (natsD hs)), some (.int (a : Int)), o]) (fun m h => m ||| 1 <<< h) 0 none (fun a o k hk => ?_) fun o' => ?_
  · have := hb k hk
    (simp -dsimp only [evB, evS, evE, evT, evL, evA, evA1, evI, evP, evC, asgG, asgL, stoD, bind_eq, it_tup, it_lst, Nat.reduceLT, sz_0, sz_1, sz_2, sz_3, sz_4, sz_5, sz_6, sz_7, sz_8, wipe_nil, wipe_cons, Nat.zero_lt_succ, Nat.not_lt_zero, decide_true, decide_false, lift_some, thenF_nx, thenF_ret, back_none', fin_ret, fin_nx, startN,
  getVar_eq, gv_own, gv_int, gv_bl, gv_str, gv_non, gv_tup, gv_lst, gv_scr, gv_ins, keptAt_eq, kp_some, mi_own, mi_bor, mi_int, mi_bl, mi_str, mi_non, mi_tup, mi_lst, mi_scr, mi_ins, mvAt_eq, mv_some, mv_own, mv_bor, mv_int, mv_bl, mv_str, mv_non, mv_tup, mv_lst, mv_scr, mv_ins,
  fz_own, fz_l, fz_i, fzI, fz_bl, fz_str, fz_non, fzT, fz_lst, fz_scr, fz_ins, fz_set, fz_ty, fz_gl, b_int, i_add, u_neg, u_inv, c_lt, c_le, c_gt, c_ge, c_eqI, c_neI, c_eqB, c_isN, c_notN, t_bl, t_int, t_non, t_tup, t_lst, x_tup, x_lst, x_scr, s_lst, s_scr,
  l_len1, l_len2, l_len3, l_int, l_abs, l_tup, l_tup2, l_list, l_list2, l_max, l_min, l_isi, nil_out, out_int, out_bl, out_tup, out_lst, out_scr, out_ins, out_non, out_bor, nO, tB, tI, back_eq, put_none,
  List.map_cons, List.map_nil, List.length_cons, List.length_nil, List.replicate, List.getElem?_cons_zero, List.getElem?_cons_succ, List.append_nil, List.nil_append, List.cons_append, List.set_cons_zero, List.set_cons_succ, Option.map_some, Option.isSome_some, Option.isSome_none, if_true, if_false, ite_true, ite_false, Bool.false_eq_true, reduceCtorEq, Nat.reduceAdd, Nat.reduceSub, n_one (b := k) (by omega), n_or] <;> try dsimp only [Dx.D.fz, Dx.MV.fz])
  · (simp -dsimp only [evB, evS, evE, evT, evL, evA, evA1, evI, evP, evC, asgG, asgL, stoD, bind_eq, it_tup, it_lst, Nat.reduceLT, sz_0, sz_1, sz_2, sz_3, sz_4, sz_5, sz_6, sz_7, sz_8, wipe_nil, wipe_cons, Nat.zero_lt_succ, Nat.not_lt_zero, decide_true, decide_false, lift_some, thenF_nx, thenF_ret, back_none', fin_ret, fin_nx, startN,
  getVar_eq, gv_own, gv_int, gv_bl, gv_str, gv_non, gv_tup, gv_lst, gv_scr, gv_ins, keptAt_eq, kp_some, mi_own, mi_bor, mi_int, mi_bl, mi_str, mi_non, mi_tup, mi_lst, mi_scr, mi_ins, mvAt_eq, mv_some, mv_own, mv_bor, mv_int, mv_bl, mv_str, mv_non, mv_tup, mv_lst, mv_scr, mv_ins,
  fz_own, fz_l, fz_i, fzI, fz_bl, fz_str, fz_non, fzT, fz_lst, fz_scr, fz_ins, fz_set, fz_ty, fz_gl, b_int, i_add, u_neg, u_inv, c_lt, c_le, c_gt, c_ge, c_eqI, c_neI, c_eqB, c_isN, c_notN, t_bl, t_int, t_non, t_tup, t_lst, x_tup, x_lst, x_scr, s_lst, s_scr,
  l_len1, l_len2, l_len3, l_int, l_abs, l_tup, l_tup2, l_list, l_list2, l_max, l_min, l_isi, nil_out, out_int, out_bl, out_tup, out_lst, out_scr, out_ins, out_non, out_bor, nO, tB, tI, back_eq, put_none,
  List.map_cons, List.map_nil, List.length_cons, List.length_nil, List.replicate, List.getElem?_cons_zero, List.getElem?_cons_succ, List.append_nil, List.nil_append, List.cons_append, List.set_cons_zero, List.set_cons_succ, Option.map_some, Option.isSome_some, Option.isSome_none, if_true, if_false, ite_true, ite_false, Bool.false_eq_true, reduceCtorEq, Nat.reduceAdd, Nat.reduceSub] <;> try dsimp only [Dx.D.fz, Dx.MV.fz])
    rfl
theorem mulOk_l {i j : Int} (h : -(2 ^ 64) < i ∧ i < 2 ^ 64) : mulOk i j = true := by
  unfold mulOk
  rw [decide_eq_true h]; rfl
theorem s_scaled {n c x : Nat} {f : Int} (hn : 2 ≤ n) (h1 : 1 ≤ c) (h2 : c ≤ 240) (hx : x < 2 ^ c) : RT n (.f "scaled") [.int c, .int x, .int f] = .ok (.int (scaleM c x f : Nat)) [] := by
  obtain ⟨j, rfl, hj⟩ := pos_of hn
  have hlt : ∀ k, k ∈ bitsL x → k < c := fun k hk => bit_lt hx hk
  have hlen : (natsD (bitsL x)).length ≤ sizeLine := by
    unfold natsD
    rw [List.length_map]
    have := asc_len (asc_bitsL x) hlt
    unfold sizeLine
    omega
  rw [RT, run_of t_scaled rfl]
  (simp -dsimp only [evB, evS, evE, evT, evL, evA, evA1, evI, evP, evC, asgG, asgL, stoD, bind_eq, it_tup, it_lst, Nat.reduceLT, sz_0, sz_1, sz_2, sz_3, sz_4, sz_5, sz_6, sz_7, sz_8, wipe_nil, wipe_cons, Nat.zero_lt_succ, Nat.not_lt_zero, decide_true, decide_false, lift_some, thenF_nx, thenF_ret, back_none', fin_ret, fin_nx, startN,
  getVar_eq, gv_own, gv_int, gv_bl, gv_str, gv_non, gv_tup, gv_lst, gv_scr, gv_ins, keptAt_eq, kp_some, mi_own, mi_bor, mi_int, mi_bl, mi_str, mi_non, mi_tup, mi_lst, mi_scr, mi_ins, mvAt_eq, mv_some, mv_own, mv_bor, mv_int, mv_bl, mv_str, mv_non, mv_tup, mv_lst, mv_scr, mv_ins,
  fz_own, fz_l, fz_i, fzI, fz_bl, fz_str, fz_non, fzT, fz_lst, fz_scr, fz_ins, fz_set, fz_ty, fz_gl, b_int, i_add, u_neg, u_inv, c_lt, c_le, c_gt, c_ge, c_eqI, c_neI, c_eqB, c_isN, c_notN, t_bl, t_int, t_non, t_tup, t_lst, x_tup, x_lst, x_scr, s_lst, s_scr,
  l_len1, l_len2, l_len3, l_int, l_abs, l_tup, l_tup2, l_list, l_list2, l_max, l_min, l_isi, nil_out, out_int, out_bl, out_tup, out_lst, out_scr, out_ins, out_non, out_bor, nO, tB, tI, back_eq, put_none,
  List.map_cons, List.map_nil, List.length_cons, List.length_nil, List.replicate, List.getElem?_cons_zero, List.getElem?_cons_succ, List.append_nil, List.nil_append, List.cons_append, List.set_cons_zero, List.set_cons_succ, Option.map_some, Option.isSome_some, Option.isSome_none, if_true, if_false, ite_true, ite_false, Bool.false_eq_true, reduceCtorEq, Nat.reduceAdd, Nat.reduceSub] <;> try dsimp only [Dx.D.fz, Dx.MV.fz])
  rw [calO_eq (bag_d bag_nil) (s_hours (e := c) hj (by omega) hx)]
  (simp -dsimp only [evB, evS, evE, evT, evL, evA, evA1, evI, evP, evC, asgG, asgL, stoD, bind_eq, it_tup, it_lst, Nat.reduceLT, sz_0, sz_1, sz_2, sz_3, sz_4, sz_5, sz_6, sz_7, sz_8, wipe_nil, wipe_cons, Nat.zero_lt_succ, Nat.not_lt_zero, decide_true, decide_false, lift_some, thenF_nx, thenF_ret, back_none', fin_ret, fin_nx, startN,
  getVar_eq, gv_own, gv_int, gv_bl, gv_str, gv_non, gv_tup, gv_lst, gv_scr, gv_ins, keptAt_eq, kp_some, mi_own, mi_bor, mi_int, mi_bl, mi_str, mi_non, mi_tup, mi_lst, mi_scr, mi_ins, mvAt_eq, mv_some, mv_own, mv_bor, mv_int, mv_bl, mv_str, mv_non, mv_tup, mv_lst, mv_scr, mv_ins,
  fz_own, fz_l, fz_i, fzI, fz_bl, fz_str, fz_non, fzT, fz_lst, fz_scr, fz_ins, fz_set, fz_ty, fz_gl, b_int, i_add, u_neg, u_inv, c_lt, c_le, c_gt, c_ge, c_eqI, c_neI, c_eqB, c_isN, c_notN, t_bl, t_int, t_non, t_tup, t_lst, x_tup, x_lst, x_scr, s_lst, s_scr,
  l_len1, l_len2, l_len3, l_int, l_abs, l_tup, l_tup2, l_list, l_list2, l_max, l_min, l_isi, nil_out, out_int, out_bl, out_tup, out_lst, out_scr, out_ins, out_non, out_bor, nO, tB, tI, back_eq, put_none,
  List.map_cons, List.map_nil, List.length_cons, List.length_nil, List.replicate, List.getElem?_cons_zero, List.getElem?_cons_succ, List.append_nil, List.nil_append, List.cons_append, List.set_cons_zero, List.set_cons_succ, Option.map_some, Option.isSome_some, Option.isSome_none, if_true, if_false, ite_true, ite_false, Bool.false_eq_true, reduceCtorEq, Nat.reduceAdd, Nat.reduceSub] <;> try dsimp only [Dx.D.fz, Dx.MV.fz])
  rw [if_pos hlen, lcD_nats (fun _ => true) (fun k => .int ((k : Int) * f % c)) (fun k hk => ?_)]
  · (simp -dsimp only [evB, evS, evE, evT, evL, evA, evA1, evI, evP, evC, asgG, asgL, stoD, bind_eq, it_tup, it_lst, Nat.reduceLT, sz_0, sz_1, sz_2, sz_3, sz_4, sz_5, sz_6, sz_7, sz_8, wipe_nil, wipe_cons, Nat.zero_lt_succ, Nat.not_lt_zero, decide_true, decide_false, lift_some, thenF_nx, thenF_ret, back_none', fin_ret, fin_nx, startN,
  getVar_eq, gv_own, gv_int, gv_bl, gv_str, gv_non, gv_tup, gv_lst, gv_scr, gv_ins, keptAt_eq, kp_some, mi_own, mi_bor, mi_int, mi_bl, mi_str, mi_non, mi_tup, mi_lst, mi_scr, mi_ins, mvAt_eq, mv_some, mv_own, mv_bor, mv_int, mv_bl, mv_str, mv_non, mv_tup, mv_lst, mv_scr, mv_ins,
  fz_own, fz_l, fz_i, fzI, fz_bl, fz_str, fz_non, fzT, fz_lst, fz_scr, fz_ins, fz_set, fz_ty, fz_gl, b_int, i_add, u_neg, u_inv, c_lt, c_le, c_gt, c_ge, c_eqI, c_neI, c_eqB, c_isN, c_notN, t_bl, t_int, t_non, t_tup, t_lst, x_tup, x_lst, x_scr, s_lst, s_scr,
  l_len1, l_len2, l_len3, l_int, l_abs, l_tup, l_tup2, l_list, l_list2, l_max, l_min, l_isi, nil_out, out_int, out_bl, out_tup, out_lst, out_scr, out_ins, out_non, out_bor, nO, tB, tI, back_eq, put_none,
  List.map_cons, List.map_nil, List.length_cons, List.length_nil, List.replicate, List.getElem?_cons_zero, List.getElem?_cons_succ, List.append_nil, List.nil_append, List.cons_append, List.set_cons_zero, List.set_cons_succ, Option.map_some, Option.isSome_some, Option.isSome_none, if_true, if_false, ite_true, ite_false, Bool.false_eq_true, reduceCtorEq, Nat.reduceAdd, Nat.reduceSub] <;> try dsimp only [Dx.D.fz, Dx.MV.fz])
    have e : ((bitsL x).filter (fun _ => true)).map (fun k : Nat => D.int ((k : Int) * f % c)) = natsD ((bitsL x).map fun h : Nat => ((h : Int) * f % c).toNat) := by
      rw [List.filter_eq_self.mpr (fun _ _ => rfl)]
      unfold natsD
      rw [List.map_map]
      refine List.map_congr_left fun k _ => ?_
      show D.int _ = D.int (((((k : Int) * f % c).toNat : Nat)) : Int)
      rw [emod_toNat h1]
    rw [e, calO_eq (bag_d bag_nil) (s_maskL hj fun k hk => ?_)]
    · (simp -dsimp only [evB, evS, evE, evT, evL, evA, evA1, evI, evP, evC, asgG, asgL, stoD, bind_eq, it_tup, it_lst, Nat.reduceLT, sz_0, sz_1, sz_2, sz_3, sz_4, sz_5, sz_6, sz_7, sz_8, wipe_nil, wipe_cons, Nat.zero_lt_succ, Nat.not_lt_zero, decide_true, decide_false, lift_some, thenF_nx, thenF_ret, back_none', fin_ret, fin_nx, startN,
  getVar_eq, gv_own, gv_int, gv_bl, gv_str, gv_non, gv_tup, gv_lst, gv_scr, gv_ins, keptAt_eq, kp_some, mi_own, mi_bor, mi_int, mi_bl, mi_str, mi_non, mi_tup, mi_lst, mi_scr, mi_ins, mvAt_eq, mv_some, mv_own, mv_bor, mv_int, mv_bl, mv_str, mv_non, mv_tup, mv_lst, mv_scr, mv_ins,
  fz_own, fz_l, fz_i, fzI, fz_bl, fz_str, fz_non, fzT, fz_lst, fz_scr, fz_ins, fz_set, fz_ty, fz_gl, b_int, i_add, u_neg, u_inv, c_lt, c_le, c_gt, c_ge, c_eqI, c_neI, c_eqB, c_isN, c_notN, t_bl, t_int, t_non, t_tup, t_lst, x_tup, x_lst, x_scr, s_lst, s_scr,
  l_len1, l_len2, l_len3, l_int, l_abs, l_tup, l_tup2, l_list, l_list2, l_max, l_min, l_isi, nil_out, out_int, out_bl, out_tup, out_lst, out_scr, out_ins, out_non, out_bor, nO, tB, tI, back_eq, put_none,
  List.map_cons, List.map_nil, List.length_cons, List.length_nil, List.replicate, List.getElem?_cons_zero, List.getElem?_cons_succ, List.append_nil, List.nil_append, List.cons_append, List.set_cons_zero, List.set_cons_succ, Option.map_some, Option.isSome_some, Option.isSome_none, if_true, if_false, ite_true, ite_false, Bool.false_eq_true, reduceCtorEq, Nat.reduceAdd, Nat.reduceSub] <;> try dsimp only [Dx.D.fz, Dx.MV.fz])
      rfl
    · obtain ⟨z, _, rfl⟩ := List.mem_map.mp hk
      have := emod_toNat_lt h1 ((z : Int) * f)
      omega
  · have := hlt k hk
    (simp -dsimp only [evB, evS, evE, evT, evL, evA, evA1, evI, evP, evC, asgG, asgL, stoD, bind_eq, it_tup, it_lst, Nat.reduceLT, sz_0, sz_1, sz_2, sz_3, sz_4, sz_5, sz_6, sz_7, sz_8, wipe_nil, wipe_cons, Nat.zero_lt_succ, Nat.not_lt_zero, decide_true, decide_false, lift_some, thenF_nx, thenF_ret, back_none', fin_ret, fin_nx, startN,
  getVar_eq, gv_own, gv_int, gv_bl, gv_str, gv_non, gv_tup, gv_lst, gv_scr, gv_ins, keptAt_eq, kp_some, mi_own, mi_bor, mi_int, mi_bl, mi_str, mi_non, mi_tup, mi_lst, mi_scr, mi_ins, mvAt_eq, mv_some, mv_own, mv_bor, mv_int, mv_bl, mv_str, mv_non, mv_tup, mv_lst, mv_scr, mv_ins,
  fz_own, fz_l, fz_i, fzI, fz_bl, fz_str, fz_non, fzT, fz_lst, fz_scr, fz_ins, fz_set, fz_ty, fz_gl, b_int, i_add, u_neg, u_inv, c_lt, c_le, c_gt, c_ge, c_eqI, c_neI, c_eqB, c_isN, c_notN, t_bl, t_int, t_non, t_tup, t_lst, x_tup, x_lst, x_scr, s_lst, s_scr,
  l_len1, l_len2, l_len3, l_int, l_abs, l_tup, l_tup2, l_list, l_list2, l_max, l_min, l_isi, nil_out, out_int, out_bl, out_tup, out_lst, out_scr, out_ins, out_non, out_bor, nO, tB, tI, back_eq, put_none,
  List.map_cons, List.map_nil, List.length_cons, List.length_nil, List.replicate, List.getElem?_cons_zero, List.getElem?_cons_succ, List.append_nil, List.nil_append, List.cons_append, List.set_cons_zero, List.set_cons_succ, Option.map_some, Option.isSome_some, Option.isSome_none, if_true, if_false, ite_true, ite_false, Bool.false_eq_true, reduceCtorEq, Nat.reduceAdd, Nat.reduceSub, i_mul (a := (k : Int)) (b := f) (mulOk_l (by omega)), i_mod (a := (k : Int) * f) (b := c) (by omega)] <;> try dsimp only [Dx.D.fz, Dx.MV.fz])
theorem orShl_lt {c a : Nat} (ha : a < 2 ^ c) : ∀ {hs : List Nat}, (∀ k, k ∈ hs → k < c) → orShl a hs < 2 ^ (2 * c) := fun {hs} h => lt_of_bits fun k hk => by
  obtain ⟨z, hz, h1, h2⟩ := (testBit_orShl a hs k).mp hk
  have := h z hz
  have := bits_lt ha h2
  omega
theorem s_sums {n c a b : Nat} (hn : 3 ≤ n) (h2 : c ≤ 240) (ha : a < 2 ^ c) (hb : b < 2 ^ c) : RT n (.f "sums") [.int c, .int a, .int b] = .ok (.int (sumsN c a b : Nat)) [] := by
  obtain ⟨j, rfl, hj⟩ := pos_of hn
  have hlt : ∀ k, k ∈ bitsL b → k < c := fun k hk => bit_lt hb hk
  rw [RT, run_of t_sums rfl]
  (simp -dsimp only [evB, evS, evE, evT, evL, evA, evA1, evI, evP, evC, asgG, asgL, stoD, bind_eq, it_tup, it_lst, Nat.reduceLT, sz_0, sz_1, sz_2, sz_3, sz_4, sz_5, sz_6, sz_7, sz_8, wipe_nil, wipe_cons, Nat.zero_lt_succ, Nat.not_lt_zero, decide_true, decide_false, lift_some, thenF_nx, thenF_ret, back_none', fin_ret, fin_nx, startN,
  getVar_eq, gv_own, gv_int, gv_bl, gv_str, gv_non, gv_tup, gv_lst, gv_scr, gv_ins, keptAt_eq, kp_some, mi_own, mi_bor, mi_int, mi_bl, mi_str, mi_non, mi_tup, mi_lst, mi_scr, mi_ins, mvAt_eq, mv_some, mv_own, mv_bor, mv_int, mv_bl, mv_str, mv_non, mv_tup, mv_lst, mv_scr, mv_ins,
  fz_own, fz_l, fz_i, fzI, fz_bl, fz_str, fz_non, fzT, fz_lst, fz_scr, fz_ins, fz_set, fz_ty, fz_gl, b_int, i_add, u_neg, u_inv, c_lt, c_le, c_gt, c_ge, c_eqI, c_neI, c_eqB, c_isN, c_notN, t_bl, t_int, t_non, t_tup, t_lst, x_tup, x_lst, x_scr, s_lst, s_scr,
  l_len1, l_len2, l_len3, l_int, l_abs, l_tup, l_tup2, l_list, l_list2, l_max, l_min, l_isi, nil_out, out_int, out_bl, out_tup, out_lst, out_scr, out_ins, out_non, out_bor, nO, tB, tI, back_eq, put_none,
  List.map_cons, List.map_nil, List.length_cons, List.length_nil, List.replicate, List.getElem?_cons_zero, List.getElem?_cons_succ, List.append_nil, List.nil_append, List.cons_append, List.set_cons_zero, List.set_cons_succ, Option.map_some, Option.isSome_some, Option.isSome_none, if_true, if_false, ite_true, ite_false, Bool.false_eq_true, reduceCtorEq, Nat.reduceAdd, Nat.reduceSub] <;> try dsimp only [Dx.D.fz, Dx.MV.fz])
  rw [calO_eq (bag_d bag_nil) (s_hours (e := c) (by omega) (by omega) hb)]
  (simp -dsimp only [evB, evS, evE, evT, evL, evA, evA1, evI, evP, evC, asgG, asgL, stoD, bind_eq, it_tup, it_lst, Nat.reduceLT, sz_0, sz_1, sz_2, sz_3, sz_4, sz_5, sz_6, sz_7, sz_8, wipe_nil, wipe_cons, Nat.zero_lt_succ, Nat.not_lt_zero, decide_true, decide_false, lift_some, thenF_nx, thenF_ret, back_none', fin_ret, fin_nx, startN,
  getVar_eq, gv_own, gv_int, gv_bl, gv_str, gv_non, gv_tup, gv_lst, gv_scr, gv_ins, keptAt_eq, kp_some, mi_own, mi_bor, mi_int, mi_bl, mi_str, mi_non, mi_tup, mi_lst, mi_scr, mi_ins, mvAt_eq, mv_some, mv_own, mv_bor, mv_int, mv_bl, mv_str, mv_non, mv_tup, mv_lst, mv_scr, mv_ins,
  fz_own, fz_l, fz_i, fzI, fz_bl, fz_str, fz_non, fzT, fz_lst, fz_scr, fz_ins, fz_set, fz_ty, fz_gl, b_int, i_add, u_neg, u_inv, c_lt, c_le, c_gt, c_ge, c_eqI, c_neI, c_eqB, c_isN, c_notN, t_bl, t_int, t_non, t_tup, t_lst, x_tup, x_lst, x_scr, s_lst, s_scr,
  l_len1, l_len2, l_len3, l_int, l_abs, l_tup, l_tup2, l_list, l_list2, l_max, l_min, l_isi, nil_out, out_int, out_bl, out_tup, out_lst, out_scr, out_ins, out_non, out_bor, nO, tB, tI, back_eq, put_none,
  List.map_cons, List.map_nil, List.length_cons, List.length_nil, List.replicate, List.getElem?_cons_zero, List.getElem?_cons_succ, List.append_nil, List.nil_append, List.cons_append, List.set_cons_zero, List.set_cons_succ, Option.map_some, Option.isSome_some, Option.isSome_none, if_true, if_false, ite_true, ite_false, Bool.false_eq_true, reduceCtorEq, Nat.reduceAdd, Nat.reduceSub] <;> try dsimp only [Dx.D.fz, Dx.MV.fz])
  refine fin_for (fun t o => [some (.int (c : Int)), some (.int (a : Int)), some (.int (b : Int)), some (.int (t : Int)), o]) (fun t h => t ||| a <<< h) 0 none (fun t o k hk => ?_) fun o' => ?_
  · have := hlt k hk
    (simp -dsimp only [evB, evS, evE, evT, evL, evA, evA1, evI, evP, evC, asgG, asgL, stoD, bind_eq, it_tup, it_lst, Nat.reduceLT, sz_0, sz_1, sz_2, sz_3, sz_4, sz_5, sz_6, sz_7, sz_8, wipe_nil, wipe_cons, Nat.zero_lt_succ, Nat.not_lt_zero, decide_true, decide_false, lift_some, thenF_nx, thenF_ret, back_none', fin_ret, fin_nx, startN,
  getVar_eq, gv_own, gv_int, gv_bl, gv_str, gv_non, gv_tup, gv_lst, gv_scr, gv_ins, keptAt_eq, kp_some, mi_own, mi_bor, mi_int, mi_bl, mi_str, mi_non, mi_tup, mi_lst, mi_scr, mi_ins, mvAt_eq, mv_some, mv_own, mv_bor, mv_int, mv_bl, mv_str, mv_non, mv_tup, mv_lst, mv_scr, mv_ins,
  fz_own, fz_l, fz_i, fzI, fz_bl, fz_str, fz_non, fzT, fz_lst, fz_scr, fz_ins, fz_set, fz_ty, fz_gl, b_int, i_add, u_neg, u_inv, c_lt, c_le, c_gt, c_ge, c_eqI, c_neI, c_eqB, c_isN, c_notN, t_bl, t_int, t_non, t_tup, t_lst, x_tup, x_lst, x_scr, s_lst, s_scr,
  l_len1, l_len2, l_len3, l_int, l_abs, l_tup, l_tup2, l_list, l_list2, l_max, l_min, l_isi, nil_out, out_int, out_bl, out_tup, out_lst, out_scr, out_ins, out_non, out_bor, nO, tB, tI, back_eq, put_none,
  List.map_cons, List.map_nil, List.length_cons, List.length_nil, List.replicate, List.getElem?_cons_zero, List.getElem?_cons_succ, List.append_nil, List.nil_append, List.cons_append, List.set_cons_zero, List.set_cons_succ, Option.map_some, Option.isSome_some, Option.isSome_none, if_true, if_false, ite_true, ite_false, Bool.false_eq_true, reduceCtorEq, Nat.reduceAdd, Nat.reduceSub, n_shl (a := a) (b := k) (n := c) ha (by omega), n_or] <;> try dsimp only [Dx.D.fz, Dx.MV.fz])
  · (simp -dsimp only [evB, evS, evE, evT, evL, evA, evA1, evI, evP, evC, asgG, asgL, stoD, bind_eq, it_tup, it_lst, Nat.reduceLT, sz_0, sz_1, sz_2, sz_3, sz_4, sz_5, sz_6, sz_7, sz_8, wipe_nil, wipe_cons, Nat.zero_lt_succ, Nat.not_lt_zero, decide_true, decide_false, lift_some, thenF_nx, thenF_ret, back_none', fin_ret, fin_nx, startN,
  getVar_eq, gv_own, gv_int, gv_bl, gv_str, gv_non, gv_tup, gv_lst, gv_scr, gv_ins, keptAt_eq, kp_some, mi_own, mi_bor, mi_int, mi_bl, mi_str, mi_non, mi_tup, mi_lst, mi_scr, mi_ins, mvAt_eq, mv_some, mv_own, mv_bor, mv_int, mv_bl, mv_str, mv_non, mv_tup, mv_lst, mv_scr, mv_ins,
  fz_own, fz_l, fz_i, fzI, fz_bl, fz_str, fz_non, fzT, fz_lst, fz_scr, fz_ins, fz_set, fz_ty, fz_gl, b_int, i_add, u_neg, u_inv, c_lt, c_le, c_gt, c_ge, c_eqI, c_neI, c_eqB, c_isN, c_notN, t_bl, t_int, t_non, t_tup, t_lst, x_tup, x_lst, x_scr, s_lst, s_scr,
  l_len1, l_len2, l_len3, l_int, l_abs, l_tup, l_tup2, l_list, l_list2, l_max, l_min, l_isi, nil_out, out_int, out_bl, out_tup, out_lst, out_scr, out_ins, out_non, out_bor, nO, tB, tI, back_eq, put_none,
  List.map_cons, List.map_nil, List.length_cons, List.length_nil, List.replicate, List.getElem?_cons_zero, List.getElem?_cons_succ, List.append_nil, List.nil_append, List.cons_append, List.set_cons_zero, List.set_cons_succ, Option.map_some, Option.isSome_some, Option.isSome_none, if_true, if_false, ite_true, ite_false, Bool.false_eq_true, reduceCtorEq, Nat.reduceAdd, Nat.reduceSub] <;> try dsimp only [Dx.D.fz, Dx.MV.fz])
    rw [calO_eq (bag_d (bag_d bag_nil)) (s_wrapped hj h2)]
    (simp -dsimp only [evB, evS, evE, evT, evL, evA, evA1, evI, evP, evC, asgG, asgL, stoD, bind_eq, it_tup, it_lst, Nat.reduceLT, sz_0, sz_1, sz_2, sz_3, sz_4, sz_5, sz_6, sz_7, sz_8, wipe_nil, wipe_cons, Nat.zero_lt_succ, Nat.not_lt_zero, decide_true, decide_false, lift_some, thenF_nx, thenF_ret, back_none', fin_ret, fin_nx, startN,
  getVar_eq, gv_own, gv_int, gv_bl, gv_str, gv_non, gv_tup, gv_lst, gv_scr, gv_ins, keptAt_eq, kp_some, mi_own, mi_bor, mi_int, mi_bl, mi_str, mi_non, mi_tup, mi_lst, mi_scr, mi_ins, mvAt_eq, mv_some, mv_own, mv_bor, mv_int, mv_bl, mv_str, mv_non, mv_tup, mv_lst, mv_scr, mv_ins,
  fz_own, fz_l, fz_i, fzI, fz_bl, fz_str, fz_non, fzT, fz_lst, fz_scr, fz_ins, fz_set, fz_ty, fz_gl, b_int, i_add, u_neg, u_inv, c_lt, c_le, c_gt, c_ge, c_eqI, c_neI, c_eqB, c_isN, c_notN, t_bl, t_int, t_non, t_tup, t_lst, x_tup, x_lst, x_scr, s_lst, s_scr,
  l_len1, l_len2, l_len3, l_int, l_abs, l_tup, l_tup2, l_list, l_list2, l_max, l_min, l_isi, nil_out, out_int, out_bl, out_tup, out_lst, out_scr, out_ins, out_non, out_bor, nO, tB, tI, back_eq, put_none,
  List.map_cons, List.map_nil, List.length_cons, List.length_nil, List.replicate, List.getElem?_cons_zero, List.getElem?_cons_succ, List.append_nil, List.nil_append, List.cons_append, List.set_cons_zero, List.set_cons_succ, Option.map_some, Option.isSome_some, Option.isSome_none, if_true, if_false, ite_true, ite_false, Bool.false_eq_true, reduceCtorEq, Nat.reduceAdd, Nat.reduceSub] <;> try dsimp only [Dx.D.fz, Dx.MV.fz])
    rfl
/-- a method on an instance -/
theorem b_ins {C : Cal} {op : Operator} {c : Str} {fs gs : List (Str × D)} {ρ : En} {d : D} {o : List MV} (h : C (.m c (PySem.dunder op.info.2)) [.ins c fs, .ins c gs] = .ok d o) : binO C op (.ins c fs) (.ins c gs) ρ = .ok d ρ := by
  show (if c = c then back ρ none _ else _) = _
  rw [if_pos rfl, h]; rfl
abbrev ownH (n : Nat) (row : List Nat) : D := .own (.ins "Hours" [(("_clock" : Str), .int (n : Int)), (("_hours" : Str), .tup (natsD row)), (("_mask" : Str), .int (maskN row : Nat))])
theorem ofmask' {n c x : Nat} (hn : 6 ≤ n) (h1 : 1 ≤ c) (h2 : c ≤ 240) (hx : x < 2 ^ c) : RT n (.f "of_mask") [.int c, .int x] = .ok (ownH c (bitsL x)) [] := by
  rw [s_ofmask hn h1 h2 hx]
  show _ = Out.ok (D.own (.ins "Hours" [(("_clock" : Str), .int (c : Int)), (("_hours" : Str), .tup (natsD (bitsL x))), (("_mask" : Str), .int (maskN (bitsL x) : Nat))])) []
  rw [maskN_bitsL]
theorem vm {c : Nat} {row : List Nat} (v : Valid c row) : maskN row < 2 ^ c := maskN_lt v.lt
theorem s_add {n c : Nat} {ra rb : List Nat} (hn : 7 ≤ n) (va : Valid c ra) (vb : Valid c rb) : RT n (.m "Hours" "__add__") [hoursD c ra, hoursD c rb] = .ok (ownH c (bitsL (sumsN c (maskN ra) (maskN rb)))) [] := by
  obtain ⟨j, rfl, hj⟩ := pos_of hn
  rw [RT, run_of t_add rfl]
  (simp -dsimp only [evB, evS, evE, evT, evL, evA, evA1, evI, evP, evC, asgG, asgL, stoD, bind_eq, it_tup, it_lst, Nat.reduceLT, sz_0, sz_1, sz_2, sz_3, sz_4, sz_5, sz_6, sz_7, sz_8, wipe_nil, wipe_cons, Nat.zero_lt_succ, Nat.not_lt_zero, decide_true, decide_false, lift_some, thenF_nx, thenF_ret, back_none', fin_ret, fin_nx, startN,
  getVar_eq, gv_own, gv_int, gv_bl, gv_str, gv_non, gv_tup, gv_lst, gv_scr, gv_ins, keptAt_eq, kp_some, mi_own, mi_bor, mi_int, mi_bl, mi_str, mi_non, mi_tup, mi_lst, mi_scr, mi_ins, mvAt_eq, mv_some, mv_own, mv_bor, mv_int, mv_bl, mv_str, mv_non, mv_tup, mv_lst, mv_scr, mv_ins,
  fz_own, fz_l, fz_i, fzI, fz_bl, fz_str, fz_non, fzT, fz_lst, fz_scr, fz_ins, fz_set, fz_ty, fz_gl, b_int, i_add, u_neg, u_inv, c_lt, c_le, c_gt, c_ge, c_eqI, c_neI, c_eqB, c_isN, c_notN, t_bl, t_int, t_non, t_tup, t_lst, x_tup, x_lst, x_scr, s_lst, s_scr,
  l_len1, l_len2, l_len3, l_int, l_abs, l_tup, l_tup2, l_list, l_list2, l_max, l_min, l_isi, nil_out, out_int, out_bl, out_tup, out_lst, out_scr, out_ins, out_non, out_bor, nO, tB, tI, back_eq, put_none,
  List.map_cons, List.map_nil, List.length_cons, List.length_nil, List.replicate, List.getElem?_cons_zero, List.getElem?_cons_succ, List.append_nil, List.nil_append, List.cons_append, List.set_cons_zero, List.set_cons_succ, Option.map_some, Option.isSome_some, Option.isSome_none, if_true, if_false, ite_true, ite_false, Bool.false_eq_true, reduceCtorEq, Nat.reduceAdd, Nat.reduceSub, fg lk_c, fg lk_m] <;> try dsimp only [Dx.D.fz, Dx.MV.fz])
  rw [calO_eq (bag_d (bag_d bag_nil)) (s_chk2 (by omega))]
  (simp -dsimp only [evB, evS, evE, evT, evL, evA, evA1, evI, evP, evC, asgG, asgL, stoD, bind_eq, it_tup, it_lst, Nat.reduceLT, sz_0, sz_1, sz_2, sz_3, sz_4, sz_5, sz_6, sz_7, sz_8, wipe_nil, wipe_cons, Nat.zero_lt_succ, Nat.not_lt_zero, decide_true, decide_false, lift_some, thenF_nx, thenF_ret, back_none', fin_ret, fin_nx, startN,
  getVar_eq, gv_own, gv_int, gv_bl, gv_str, gv_non, gv_tup, gv_lst, gv_scr, gv_ins, keptAt_eq, kp_some, mi_own, mi_bor, mi_int, mi_bl, mi_str, mi_non, mi_tup, mi_lst, mi_scr, mi_ins, mvAt_eq, mv_some, mv_own, mv_bor, mv_int, mv_bl, mv_str, mv_non, mv_tup, mv_lst, mv_scr, mv_ins,
  fz_own, fz_l, fz_i, fzI, fz_bl, fz_str, fz_non, fzT, fz_lst, fz_scr, fz_ins, fz_set, fz_ty, fz_gl, b_int, i_add, u_neg, u_inv, c_lt, c_le, c_gt, c_ge, c_eqI, c_neI, c_eqB, c_isN, c_notN, t_bl, t_int, t_non, t_tup, t_lst, x_tup, x_lst, x_scr, s_lst, s_scr,
  l_len1, l_len2, l_len3, l_int, l_abs, l_tup, l_tup2, l_list, l_list2, l_max, l_min, l_isi, nil_out, out_int, out_bl, out_tup, out_lst, out_scr, out_ins, out_non, out_bor, nO, tB, tI, back_eq, put_none,
  List.map_cons, List.map_nil, List.length_cons, List.length_nil, List.replicate, List.getElem?_cons_zero, List.getElem?_cons_succ, List.append_nil, List.nil_append, List.cons_append, List.set_cons_zero, List.set_cons_succ, Option.map_some, Option.isSome_some, Option.isSome_none, if_true, if_false, ite_true, ite_false, Bool.false_eq_true, reduceCtorEq, Nat.reduceAdd, Nat.reduceSub, fg lk_c, fg lk_m] <;> try dsimp only [Dx.D.fz, Dx.MV.fz])
  rw [calO_eq (bag_d (bag_d (bag_d bag_nil))) (s_sums (by omega) va.le (vm va) (vm vb))]
  (simp -dsimp only [evB, evS, evE, evT, evL, evA, evA1, evI, evP, evC, asgG, asgL, stoD, bind_eq, it_tup, it_lst, Nat.reduceLT, sz_0, sz_1, sz_2, sz_3, sz_4, sz_5, sz_6, sz_7, sz_8, wipe_nil, wipe_cons, Nat.zero_lt_succ, Nat.not_lt_zero, decide_true, decide_false, lift_some, thenF_nx, thenF_ret, back_none', fin_ret, fin_nx, startN,
  getVar_eq, gv_own, gv_int, gv_bl, gv_str, gv_non, gv_tup, gv_lst, gv_scr, gv_ins, keptAt_eq, kp_some, mi_own, mi_bor, mi_int, mi_bl, mi_str, mi_non, mi_tup, mi_lst, mi_scr, mi_ins, mvAt_eq, mv_some, mv_own, mv_bor, mv_int, mv_bl, mv_str, mv_non, mv_tup, mv_lst, mv_scr, mv_ins,
  fz_own, fz_l, fz_i, fzI, fz_bl, fz_str, fz_non, fzT, fz_lst, fz_scr, fz_ins, fz_set, fz_ty, fz_gl, b_int, i_add, u_neg, u_inv, c_lt, c_le, c_gt, c_ge, c_eqI, c_neI, c_eqB, c_isN, c_notN, t_bl, t_int, t_non, t_tup, t_lst, x_tup, x_lst, x_scr, s_lst, s_scr,
  l_len1, l_len2, l_len3, l_int, l_abs, l_tup, l_tup2, l_list, l_list2, l_max, l_min, l_isi, nil_out, out_int, out_bl, out_tup, out_lst, out_scr, out_ins, out_non, out_bor, nO, tB, tI, back_eq, put_none,
  List.map_cons, List.map_nil, List.length_cons, List.length_nil, List.replicate, List.getElem?_cons_zero, List.getElem?_cons_succ, List.append_nil, List.nil_append, List.cons_append, List.set_cons_zero, List.set_cons_succ, Option.map_some, Option.isSome_some, Option.isSome_none, if_true, if_false, ite_true, ite_false, Bool.false_eq_true, reduceCtorEq, Nat.reduceAdd, Nat.reduceSub] <;> try dsimp only [Dx.D.fz, Dx.MV.fz])
  rw [calO_eq (bag_d (bag_d bag_nil)) (ofmask' hj va.pos va.le (sumsN_lt _ _ _))]
  (simp -dsimp only [evB, evS, evE, evT, evL, evA, evA1, evI, evP, evC, asgG, asgL, stoD, bind_eq, it_tup, it_lst, Nat.reduceLT, sz_0, sz_1, sz_2, sz_3, sz_4, sz_5, sz_6, sz_7, sz_8, wipe_nil, wipe_cons, Nat.zero_lt_succ, Nat.not_lt_zero, decide_true, decide_false, lift_some, thenF_nx, thenF_ret, back_none', fin_ret, fin_nx, startN,
  getVar_eq, gv_own, gv_int, gv_bl, gv_str, gv_non, gv_tup, gv_lst, gv_scr, gv_ins, keptAt_eq, kp_some, mi_own, mi_bor, mi_int, mi_bl, mi_str, mi_non, mi_tup, mi_lst, mi_scr, mi_ins, mvAt_eq, mv_some, mv_own, mv_bor, mv_int, mv_bl, mv_str, mv_non, mv_tup, mv_lst, mv_scr, mv_ins,
  fz_own, fz_l, fz_i, fzI, fz_bl, fz_str, fz_non, fzT, fz_lst, fz_scr, fz_ins, fz_set, fz_ty, fz_gl, b_int, i_add, u_neg, u_inv, c_lt, c_le, c_gt, c_ge, c_eqI, c_neI, c_eqB, c_isN, c_notN, t_bl, t_int, t_non, t_tup, t_lst, x_tup, x_lst, x_scr, s_lst, s_scr,
  l_len1, l_len2, l_len3, l_int, l_abs, l_tup, l_tup2, l_list, l_list2, l_max, l_min, l_isi, nil_out, out_int, out_bl, out_tup, out_lst, out_scr, out_ins, out_non, out_bor, nO, tB, tI, back_eq, put_none,
  List.map_cons, List.map_nil, List.length_cons, List.length_nil, List.replicate, List.getElem?_cons_zero, List.getElem?_cons_succ, List.append_nil, List.nil_append, List.cons_append, List.set_cons_zero, List.set_cons_succ, Option.map_some, Option.isSome_some, Option.isSome_none, if_true, if_false, ite_true, ite_false, Bool.false_eq_true, reduceCtorEq, Nat.reduceAdd, Nat.reduceSub] <;> try dsimp only [Dx.D.fz, Dx.MV.fz])
theorem scaleM_lt {c x : Nat} {f : Int} (h1 : 1 ≤ c) : scaleM c x f < 2 ^ c := maskN_lt fun k hk => by
  obtain ⟨z, _, rfl⟩ := List.mem_map.mp hk
  exact emod_toNat_lt h1 _
theorem s_neg {n c : Nat} {ra : List Nat} (hn : 7 ≤ n) (va : Valid c ra) : RT n (.m "Hours" "__neg__") [hoursD c ra] = .ok (ownH c (bitsL (scaleM c (maskN ra) (-1)))) [] := by
  obtain ⟨j, rfl, hj⟩ := pos_of hn
  rw [RT, run_of t_neg rfl]
  (simp -dsimp only [evB, evS, evE, evT, evL, evA, evA1, evI, evP, evC, asgG, asgL, stoD, bind_eq, it_tup, it_lst, Nat.reduceLT, sz_0, sz_1, sz_2, sz_3, sz_4, sz_5, sz_6, sz_7, sz_8, wipe_nil, wipe_cons, Nat.zero_lt_succ, Nat.not_lt_zero, decide_true, decide_false, lift_some, thenF_nx, thenF_ret, back_none', fin_ret, fin_nx, startN,
  getVar_eq, gv_own, gv_int, gv_bl, gv_str, gv_non, gv_tup, gv_lst, gv_scr, gv_ins, keptAt_eq, kp_some, mi_own, mi_bor, mi_int, mi_bl, mi_str, mi_non, mi_tup, mi_lst, mi_scr, mi_ins, mvAt_eq, mv_some, mv_own, mv_bor, mv_int, mv_bl, mv_str, mv_non, mv_tup, mv_lst, mv_scr, mv_ins,
  fz_own, fz_l, fz_i, fzI, fz_bl, fz_str, fz_non, fzT, fz_lst, fz_scr, fz_ins, fz_set, fz_ty, fz_gl, b_int, i_add, u_neg, u_inv, c_lt, c_le, c_gt, c_ge, c_eqI, c_neI, c_eqB, c_isN, c_notN, t_bl, t_int, t_non, t_tup, t_lst, x_tup, x_lst, x_scr, s_lst, s_scr,
  l_len1, l_len2, l_len3, l_int, l_abs, l_tup, l_tup2, l_list, l_list2, l_max, l_min, l_isi, nil_out, out_int, out_bl, out_tup, out_lst, out_scr, out_ins, out_non, out_bor, nO, tB, tI, back_eq, put_none,
  List.map_cons, List.map_nil, List.length_cons, List.length_nil, List.replicate, List.getElem?_cons_zero, List.getElem?_cons_succ, List.append_nil, List.nil_append, List.cons_append, List.set_cons_zero, List.set_cons_succ, Option.map_some, Option.isSome_some, Option.isSome_none, if_true, if_false, ite_true, ite_false, Bool.false_eq_true, reduceCtorEq, Nat.reduceAdd, Nat.reduceSub, fg lk_c, fg lk_m] <;> try dsimp only [Dx.D.fz, Dx.MV.fz])
  rw [calO_eq (bag_d (bag_d (bag_d bag_nil))) (s_scaled (by omega) va.pos va.le (vm va))]
  (simp -dsimp only [evB, evS, evE, evT, evL, evA, evA1, evI, evP, evC, asgG, asgL, stoD, bind_eq, it_tup, it_lst, Nat.reduceLT, sz_0, sz_1, sz_2, sz_3, sz_4, sz_5, sz_6, sz_7, sz_8, wipe_nil, wipe_cons, Nat.zero_lt_succ, Nat.not_lt_zero, decide_true, decide_false, lift_some, thenF_nx, thenF_ret, back_none', fin_ret, fin_nx, startN,
  getVar_eq, gv_own, gv_int, gv_bl, gv_str, gv_non, gv_tup, gv_lst, gv_scr, gv_ins, keptAt_eq, kp_some, mi_own, mi_bor, mi_int, mi_bl, mi_str, mi_non, mi_tup, mi_lst, mi_scr, mi_ins, mvAt_eq, mv_some, mv_own, mv_bor, mv_int, mv_bl, mv_str, mv_non, mv_tup, mv_lst, mv_scr, mv_ins,
  fz_own, fz_l, fz_i, fzI, fz_bl, fz_str, fz_non, fzT, fz_lst, fz_scr, fz_ins, fz_set, fz_ty, fz_gl, b_int, i_add, u_neg, u_inv, c_lt, c_le, c_gt, c_ge, c_eqI, c_neI, c_eqB, c_isN, c_notN, t_bl, t_int, t_non, t_tup, t_lst, x_tup, x_lst, x_scr, s_lst, s_scr,
  l_len1, l_len2, l_len3, l_int, l_abs, l_tup, l_tup2, l_list, l_list2, l_max, l_min, l_isi, nil_out, out_int, out_bl, out_tup, out_lst, out_scr, out_ins, out_non, out_bor, nO, tB, tI, back_eq, put_none,
  List.map_cons, List.map_nil, List.length_cons, List.length_nil, List.replicate, List.getElem?_cons_zero, List.getElem?_cons_succ, List.append_nil, List.nil_append, List.cons_append, List.set_cons_zero, List.set_cons_succ, Option.map_some, Option.isSome_some, Option.isSome_none, if_true, if_false, ite_true, ite_false, Bool.false_eq_true, reduceCtorEq, Nat.reduceAdd, Nat.reduceSub] <;> try dsimp only [Dx.D.fz, Dx.MV.fz])
  rw [calO_eq (bag_d (bag_d bag_nil)) (ofmask' hj va.pos va.le (scaleM_lt va.pos))]
  (simp -dsimp only [evB, evS, evE, evT, evL, evA, evA1, evI, evP, evC, asgG, asgL, stoD, bind_eq, it_tup, it_lst, Nat.reduceLT, sz_0, sz_1, sz_2, sz_3, sz_4, sz_5, sz_6, sz_7, sz_8, wipe_nil, wipe_cons, Nat.zero_lt_succ, Nat.not_lt_zero, decide_true, decide_false, lift_some, thenF_nx, thenF_ret, back_none', fin_ret, fin_nx, startN,
  getVar_eq, gv_own, gv_int, gv_bl, gv_str, gv_non, gv_tup, gv_lst, gv_scr, gv_ins, keptAt_eq, kp_some, mi_own, mi_bor, mi_int, mi_bl, mi_str, mi_non, mi_tup, mi_lst, mi_scr, mi_ins, mvAt_eq, mv_some, mv_own, mv_bor, mv_int, mv_bl, mv_str, mv_non, mv_tup, mv_lst, mv_scr, mv_ins,
  fz_own, fz_l, fz_i, fzI, fz_bl, fz_str, fz_non, fzT, fz_lst, fz_scr, fz_ins, fz_set, fz_ty, fz_gl, b_int, i_add, u_neg, u_inv, c_lt, c_le, c_gt, c_ge, c_eqI, c_neI, c_eqB, c_isN, c_notN, t_bl, t_int, t_non, t_tup, t_lst, x_tup, x_lst, x_scr, s_lst, s_scr,
  l_len1, l_len2, l_len3, l_int, l_abs, l_tup, l_tup2, l_list, l_list2, l_max, l_min, l_isi, nil_out, out_int, out_bl, out_tup, out_lst, out_scr, out_ins, out_non, out_bor, nO, tB, tI, back_eq, put_none,
  List.map_cons, List.map_nil, List.length_cons, List.length_nil, List.replicate, List.getElem?_cons_zero, List.getElem?_cons_succ, List.append_nil, List.nil_append, List.cons_append, List.set_cons_zero, List.set_cons_succ, Option.map_some, Option.isSome_some, Option.isSome_none, if_true, if_false, ite_true, ite_false, Bool.false_eq_true, reduceCtorEq, Nat.reduceAdd, Nat.reduceSub] <;> try dsimp only [Dx.D.fz, Dx.MV.fz])
theorem s_sub {n c : Nat} {ra rb : List Nat} (hn : 7 ≤ n) (va : Valid c ra) (vb : Valid c rb) : RT n (.m "Hours" "__sub__") [hoursD c ra, hoursD c rb] = .ok (ownH c (bitsL (sumsN c (maskN ra) (scaleM c (maskN rb) (-1))))) [] := by
  obtain ⟨j, rfl, hj⟩ := pos_of hn
  rw [RT, run_of t_sub rfl]
  (simp -dsimp only [evB, evS, evE, evT, evL, evA, evA1, evI, evP, evC, asgG, asgL, stoD, bind_eq, it_tup, it_lst, Nat.reduceLT, sz_0, sz_1, sz_2, sz_3, sz_4, sz_5, sz_6, sz_7, sz_8, wipe_nil, wipe_cons, Nat.zero_lt_succ, Nat.not_lt_zero, decide_true, decide_false, lift_some, thenF_nx, thenF_ret, back_none', fin_ret, fin_nx, startN,
  getVar_eq, gv_own, gv_int, gv_bl, gv_str, gv_non, gv_tup, gv_lst, gv_scr, gv_ins, keptAt_eq, kp_some, mi_own, mi_bor, mi_int, mi_bl, mi_str, mi_non, mi_tup, mi_lst, mi_scr, mi_ins, mvAt_eq, mv_some, mv_own, mv_bor, mv_int, mv_bl, mv_str, mv_non, mv_tup, mv_lst, mv_scr, mv_ins,
  fz_own, fz_l, fz_i, fzI, fz_bl, fz_str, fz_non, fzT, fz_lst, fz_scr, fz_ins, fz_set, fz_ty, fz_gl, b_int, i_add, u_neg, u_inv, c_lt, c_le, c_gt, c_ge, c_eqI, c_neI, c_eqB, c_isN, c_notN, t_bl, t_int, t_non, t_tup, t_lst, x_tup, x_lst, x_scr, s_lst, s_scr,
  l_len1, l_len2, l_len3, l_int, l_abs, l_tup, l_tup2, l_list, l_list2, l_max, l_min, l_isi, nil_out, out_int, out_bl, out_tup, out_lst, out_scr, out_ins, out_non, out_bor, nO, tB, tI, back_eq, put_none,
  List.map_cons, List.map_nil, List.length_cons, List.length_nil, List.replicate, List.getElem?_cons_zero, List.getElem?_cons_succ, List.append_nil, List.nil_append, List.cons_append, List.set_cons_zero, List.set_cons_succ, Option.map_some, Option.isSome_some, Option.isSome_none, if_true, if_false, ite_true, ite_false, Bool.false_eq_true, reduceCtorEq, Nat.reduceAdd, Nat.reduceSub, fg lk_c, fg lk_m] <;> try dsimp only [Dx.D.fz, Dx.MV.fz])
  rw [calO_eq (bag_d (bag_d bag_nil)) (s_chk2 (by omega))]
  (simp -dsimp only [evB, evS, evE, evT, evL, evA, evA1, evI, evP, evC, asgG, asgL, stoD, bind_eq, it_tup, it_lst, Nat.reduceLT, sz_0, sz_1, sz_2, sz_3, sz_4, sz_5, sz_6, sz_7, sz_8, wipe_nil, wipe_cons, Nat.zero_lt_succ, Nat.not_lt_zero, decide_true, decide_false, lift_some, thenF_nx, thenF_ret, back_none', fin_ret, fin_nx, startN,
  getVar_eq, gv_own, gv_int, gv_bl, gv_str, gv_non, gv_tup, gv_lst, gv_scr, gv_ins, keptAt_eq, kp_some, mi_own, mi_bor, mi_int, mi_bl, mi_str, mi_non, mi_tup, mi_lst, mi_scr, mi_ins, mvAt_eq, mv_some, mv_own, mv_bor, mv_int, mv_bl, mv_str, mv_non, mv_tup, mv_lst, mv_scr, mv_ins,
  fz_own, fz_l, fz_i, fzI, fz_bl, fz_str, fz_non, fzT, fz_lst, fz_scr, fz_ins, fz_set, fz_ty, fz_gl, b_int, i_add, u_neg, u_inv, c_lt, c_le, c_gt, c_ge, c_eqI, c_neI, c_eqB, c_isN, c_notN, t_bl, t_int, t_non, t_tup, t_lst, x_tup, x_lst, x_scr, s_lst, s_scr,
  l_len1, l_len2, l_len3, l_int, l_abs, l_tup, l_tup2, l_list, l_list2, l_max, l_min, l_isi, nil_out, out_int, out_bl, out_tup, out_lst, out_scr, out_ins, out_non, out_bor, nO, tB, tI, back_eq, put_none,
  List.map_cons, List.map_nil, List.length_cons, List.length_nil, List.replicate, List.getElem?_cons_zero, List.getElem?_cons_succ, List.append_nil, List.nil_append, List.cons_append, List.set_cons_zero, List.set_cons_succ, Option.map_some, Option.isSome_some, Option.isSome_none, if_true, if_false, ite_true, ite_false, Bool.false_eq_true, reduceCtorEq, Nat.reduceAdd, Nat.reduceSub, fg lk_c, fg lk_m] <;> try dsimp only [Dx.D.fz, Dx.MV.fz])
  rw [calO_eq (bag_d (bag_d (bag_d bag_nil))) (s_scaled (by omega) vb.pos vb.le (vm vb))]
  (simp -dsimp only [evB, evS, evE, evT, evL, evA, evA1, evI, evP, evC, asgG, asgL, stoD, bind_eq, it_tup, it_lst, Nat.reduceLT, sz_0, sz_1, sz_2, sz_3, sz_4, sz_5, sz_6, sz_7, sz_8, wipe_nil, wipe_cons, Nat.zero_lt_succ, Nat.not_lt_zero, decide_true, decide_false, lift_some, thenF_nx, thenF_ret, back_none', fin_ret, fin_nx, startN,
  getVar_eq, gv_own, gv_int, gv_bl, gv_str, gv_non, gv_tup, gv_lst, gv_scr, gv_ins, keptAt_eq, kp_some, mi_own, mi_bor, mi_int, mi_bl, mi_str, mi_non, mi_tup, mi_lst, mi_scr, mi_ins, mvAt_eq, mv_some, mv_own, mv_bor, mv_int, mv_bl, mv_str, mv_non, mv_tup, mv_lst, mv_scr, mv_ins,
  fz_own, fz_l, fz_i, fzI, fz_bl, fz_str, fz_non, fzT, fz_lst, fz_scr, fz_ins, fz_set, fz_ty, fz_gl, b_int, i_add, u_neg, u_inv, c_lt, c_le, c_gt, c_ge, c_eqI, c_neI, c_eqB, c_isN, c_notN, t_bl, t_int, t_non, t_tup, t_lst, x_tup, x_lst, x_scr, s_lst, s_scr,
  l_len1, l_len2, l_len3, l_int, l_abs, l_tup, l_tup2, l_list, l_list2, l_max, l_min, l_isi, nil_out, out_int, out_bl, out_tup, out_lst, out_scr, out_ins, out_non, out_bor, nO, tB, tI, back_eq, put_none,
  List.map_cons, List.map_nil, List.length_cons, List.length_nil, List.replicate, List.getElem?_cons_zero, List.getElem?_cons_succ, List.append_nil, List.nil_append, List.cons_append, List.set_cons_zero, List.set_cons_succ, Option.map_some, Option.isSome_some, Option.isSome_none, if_true, if_false, ite_true, ite_false, Bool.false_eq_true, reduceCtorEq, Nat.reduceAdd, Nat.reduceSub, fg lk_c, fg lk_m] <;> try dsimp only [Dx.D.fz, Dx.MV.fz])
  rw [calO_eq (bag_d (bag_d (bag_d bag_nil))) (s_sums (by omega) va.le (vm va) (scaleM_lt va.pos))]
  (simp -dsimp only [evB, evS, evE, evT, evL, evA, evA1, evI, evP, evC, asgG, asgL, stoD, bind_eq, it_tup, it_lst, Nat.reduceLT, sz_0, sz_1, sz_2, sz_3, sz_4, sz_5, sz_6, sz_7, sz_8, wipe_nil, wipe_cons, Nat.zero_lt_succ, Nat.not_lt_zero, decide_true, decide_false, lift_some, thenF_nx, thenF_ret, back_none', fin_ret, fin_nx, startN,
  getVar_eq, gv_own, gv_int, gv_bl, gv_str, gv_non, gv_tup, gv_lst, gv_scr, gv_ins, keptAt_eq, kp_some, mi_own, mi_bor, mi_int, mi_bl, mi_str, mi_non, mi_tup, mi_lst, mi_scr, mi_ins, mvAt_eq, mv_some, mv_own, mv_bor, mv_int, mv_bl, mv_str, mv_non, mv_tup, mv_lst, mv_scr, mv_ins,
  fz_own, fz_l, fz_i, fzI, fz_bl, fz_str, fz_non, fzT, fz_lst, fz_scr, fz_ins, fz_set, fz_ty, fz_gl, b_int, i_add, u_neg, u_inv, c_lt, c_le, c_gt, c_ge, c_eqI, c_neI, c_eqB, c_isN, c_notN, t_bl, t_int, t_non, t_tup, t_lst, x_tup, x_lst, x_scr, s_lst, s_scr,
  l_len1, l_len2, l_len3, l_int, l_abs, l_tup, l_tup2, l_list, l_list2, l_max, l_min, l_isi, nil_out, out_int, out_bl, out_tup, out_lst, out_scr, out_ins, out_non, out_bor, nO, tB, tI, back_eq, put_none,
  List.map_cons, List.map_nil, List.length_cons, List.length_nil, List.replicate, List.getElem?_cons_zero, List.getElem?_cons_succ, List.append_nil, List.nil_append, List.cons_append, List.set_cons_zero, List.set_cons_succ, Option.map_some, Option.isSome_some, Option.isSome_none, if_true, if_false, ite_true, ite_false, Bool.false_eq_true, reduceCtorEq, Nat.reduceAdd, Nat.reduceSub] <;> try dsimp only [Dx.D.fz, Dx.MV.fz])
  rw [calO_eq (bag_d (bag_d bag_nil)) (ofmask' hj va.pos va.le (sumsN_lt _ _ _))]
  (simp -dsimp only [evB, evS, evE, evT, evL, evA, evA1, evI, evP, evC, asgG, asgL, stoD, bind_eq, it_tup, it_lst, Nat.reduceLT, sz_0, sz_1, sz_2, sz_3, sz_4, sz_5, sz_6, sz_7, sz_8, wipe_nil, wipe_cons, Nat.zero_lt_succ, Nat.not_lt_zero, decide_true, decide_false, lift_some, thenF_nx, thenF_ret, back_none', fin_ret, fin_nx, startN,
  getVar_eq, gv_own, gv_int, gv_bl, gv_str, gv_non, gv_tup, gv_lst, gv_scr, gv_ins, keptAt_eq, kp_some, mi_own, mi_bor, mi_int, mi_bl, mi_str, mi_non, mi_tup, mi_lst, mi_scr, mi_ins, mvAt_eq, mv_some, mv_own, mv_bor, mv_int, mv_bl, mv_str, mv_non, mv_tup, mv_lst, mv_scr, mv_ins,
  fz_own, fz_l, fz_i, fzI, fz_bl, fz_str, fz_non, fzT, fz_lst, fz_scr, fz_ins, fz_set, fz_ty, fz_gl, b_int, i_add, u_neg, u_inv, c_lt, c_le, c_gt, c_ge, c_eqI, c_neI, c_eqB, c_isN, c_notN, t_bl, t_int, t_non, t_tup, t_lst, x_tup, x_lst, x_scr, s_lst, s_scr,
  l_len1, l_len2, l_len3, l_int, l_abs, l_tup, l_tup2, l_list, l_list2, l_max, l_min, l_isi, nil_out, out_int, out_bl, out_tup, out_lst, out_scr, out_ins, out_non, out_bor, nO, tB, tI, back_eq, put_none,
  List.map_cons, List.map_nil, List.length_cons, List.length_nil, List.replicate, List.getElem?_cons_zero, List.getElem?_cons_succ, List.append_nil, List.nil_append, List.cons_append, List.set_cons_zero, List.set_cons_succ, Option.map_some, Option.isSome_some, Option.isSome_none, if_true, if_false, ite_true, ite_false, Bool.false_eq_true, reduceCtorEq, Nat.reduceAdd, Nat.reduceSub] <;> try dsimp only [Dx.D.fz, Dx.MV.fz])
theorem s_or {n c : Nat} {ra rb : List Nat} (hn : 7 ≤ n) (va : Valid c ra) (vb : Valid c rb) : RT n (.m "Hours" "__or__") [hoursD c ra, hoursD c rb] = .ok (ownH c (bitsL (maskN ra ||| maskN rb))) [] := by
  obtain ⟨j, rfl, hj⟩ := pos_of hn
  rw [RT, run_of t_or rfl]
  (simp -dsimp only [evB, evS, evE, evT, evL, evA, evA1, evI, evP, evC, asgG, asgL, stoD, bind_eq, it_tup, it_lst, Nat.reduceLT, sz_0, sz_1, sz_2, sz_3, sz_4, sz_5, sz_6, sz_7, sz_8, wipe_nil, wipe_cons, Nat.zero_lt_succ, Nat.not_lt_zero, decide_true, decide_false, lift_some, thenF_nx, thenF_ret, back_none', fin_ret, fin_nx, startN,
  getVar_eq, gv_own, gv_int, gv_bl, gv_str, gv_non, gv_tup, gv_lst, gv_scr, gv_ins, keptAt_eq, kp_some, mi_own, mi_bor, mi_int, mi_bl, mi_str, mi_non, mi_tup, mi_lst, mi_scr, mi_ins, mvAt_eq, mv_some, mv_own, mv_bor, mv_int, mv_bl, mv_str, mv_non, mv_tup, mv_lst, mv_scr, mv_ins,
  fz_own, fz_l, fz_i, fzI, fz_bl, fz_str, fz_non, fzT, fz_lst, fz_scr, fz_ins, fz_set, fz_ty, fz_gl, b_int, i_add, u_neg, u_inv, c_lt, c_le, c_gt, c_ge, c_eqI, c_neI, c_eqB, c_isN, c_notN, t_bl, t_int, t_non, t_tup, t_lst, x_tup, x_lst, x_scr, s_lst, s_scr,
  l_len1, l_len2, l_len3, l_int, l_abs, l_tup, l_tup2, l_list, l_list2, l_max, l_min, l_isi, nil_out, out_int, out_bl, out_tup, out_lst, out_scr, out_ins, out_non, out_bor, nO, tB, tI, back_eq, put_none,
  List.map_cons, List.map_nil, List.length_cons, List.length_nil, List.replicate, List.getElem?_cons_zero, List.getElem?_cons_succ, List.append_nil, List.nil_append, List.cons_append, List.set_cons_zero, List.set_cons_succ, Option.map_some, Option.isSome_some, Option.isSome_none, if_true, if_false, ite_true, ite_false, Bool.false_eq_true, reduceCtorEq, Nat.reduceAdd, Nat.reduceSub, fg lk_c, fg lk_m] <;> try dsimp only [Dx.D.fz, Dx.MV.fz])
  rw [calO_eq (bag_d (bag_d bag_nil)) (s_chk2 (by omega))]
  (simp -dsimp only [evB, evS, evE, evT, evL, evA, evA1, evI, evP, evC, asgG, asgL, stoD, bind_eq, it_tup, it_lst, Nat.reduceLT, sz_0, sz_1, sz_2, sz_3, sz_4, sz_5, sz_6, sz_7, sz_8, wipe_nil, wipe_cons, Nat.zero_lt_succ, Nat.not_lt_zero, decide_true, decide_false, lift_some, thenF_nx, thenF_ret, back_none', fin_ret, fin_nx, startN,
  getVar_eq, gv_own, gv_int, gv_bl, gv_str, gv_non, gv_tup, gv_lst, gv_scr, gv_ins, keptAt_eq, kp_some, mi_own, mi_bor, mi_int, mi_bl, mi_str, mi_non, mi_tup, mi_lst, mi_scr, mi_ins, mvAt_eq, mv_some, mv_own, mv_bor, mv_int, mv_bl, mv_str, mv_non, mv_tup, mv_lst, mv_scr, mv_ins,
  fz_own, fz_l, fz_i, fzI, fz_bl, fz_str, fz_non, fzT, fz_lst, fz_scr, fz_ins, fz_set, fz_ty, fz_gl, b_int, i_add, u_neg, u_inv, c_lt, c_le, c_gt, c_ge, c_eqI, c_neI, c_eqB, c_isN, c_notN, t_bl, t_int, t_non, t_tup, t_lst, x_tup, x_lst, x_scr, s_lst, s_scr,
  l_len1, l_len2, l_len3, l_int, l_abs, l_tup, l_tup2, l_list, l_list2, l_max, l_min, l_isi, nil_out, out_int, out_bl, out_tup, out_lst, out_scr, out_ins, out_non, out_bor, nO, tB, tI, back_eq, put_none,
  List.map_cons, List.map_nil, List.length_cons, List.length_nil, List.replicate, List.getElem?_cons_zero, List.getElem?_cons_succ, List.append_nil, List.nil_append, List.cons_append, List.set_cons_zero, List.set_cons_succ, Option.map_some, Option.isSome_some, Option.isSome_none, if_true, if_false, ite_true, ite_false, Bool.false_eq_true, reduceCtorEq, Nat.reduceAdd, Nat.reduceSub, fg lk_c, fg lk_m, n_or] <;> try dsimp only [Dx.D.fz, Dx.MV.fz])
  rw [calO_eq (bag_d (bag_d bag_nil)) (ofmask' hj va.pos va.le (Nat.or_lt_two_pow (vm va) (vm vb)))]
  (simp -dsimp only [evB, evS, evE, evT, evL, evA, evA1, evI, evP, evC, asgG, asgL, stoD, bind_eq, it_tup, it_lst, Nat.reduceLT, sz_0, sz_1, sz_2, sz_3, sz_4, sz_5, sz_6, sz_7, sz_8, wipe_nil, wipe_cons, Nat.zero_lt_succ, Nat.not_lt_zero, decide_true, decide_false, lift_some, thenF_nx, thenF_ret, back_none', fin_ret, fin_nx, startN,
  getVar_eq, gv_own, gv_int, gv_bl, gv_str, gv_non, gv_tup, gv_lst, gv_scr, gv_ins, keptAt_eq, kp_some, mi_own, mi_bor, mi_int, mi_bl, mi_str, mi_non, mi_tup, mi_lst, mi_scr, mi_ins, mvAt_eq, mv_some, mv_own, mv_bor, mv_int, mv_bl, mv_str, mv_non, mv_tup, mv_lst, mv_scr, mv_ins,
  fz_own, fz_l, fz_i, fzI, fz_bl, fz_str, fz_non, fzT, fz_lst, fz_scr, fz_ins, fz_set, fz_ty, fz_gl, b_int, i_add, u_neg, u_inv, c_lt, c_le, c_gt, c_ge, c_eqI, c_neI, c_eqB, c_isN, c_notN, t_bl, t_int, t_non, t_tup, t_lst, x_tup, x_lst, x_scr, s_lst, s_scr,
  l_len1, l_len2, l_len3, l_int, l_abs, l_tup, l_tup2, l_list, l_list2, l_max, l_min, l_isi, nil_out, out_int, out_bl, out_tup, out_lst, out_scr, out_ins, out_non, out_bor, nO, tB, tI, back_eq, put_none,
  List.map_cons, List.map_nil, List.length_cons, List.length_nil, List.replicate, List.getElem?_cons_zero, List.getElem?_cons_succ, List.append_nil, List.nil_append, List.cons_append, List.set_cons_zero, List.set_cons_succ, Option.map_some, Option.isSome_some, Option.isSome_none, if_true, if_false, ite_true, ite_false, Bool.false_eq_true, reduceCtorEq, Nat.reduceAdd, Nat.reduceSub] <;> try dsimp only [Dx.D.fz, Dx.MV.fz])
theorem s_and {n c : Nat} {ra rb : List Nat} (hn : 7 ≤ n) (va : Valid c ra) (vb : Valid c rb) : RT n (.m "Hours" "__and__") [hoursD c ra, hoursD c rb] = .ok (ownH c (bitsL (maskN ra &&& maskN rb))) [] := by
  obtain ⟨j, rfl, hj⟩ := pos_of hn
  rw [RT, run_of t_and rfl]
  (simp -dsimp only [evB, evS, evE, evT, evL, evA, evA1, evI, evP, evC, asgG, asgL, stoD, bind_eq, it_tup, it_lst, Nat.reduceLT, sz_0, sz_1, sz_2, sz_3, sz_4, sz_5, sz_6, sz_7, sz_8, wipe_nil, wipe_cons, Nat.zero_lt_succ, Nat.not_lt_zero, decide_true, decide_false, lift_some, thenF_nx, thenF_ret, back_none', fin_ret, fin_nx, startN,
  getVar_eq, gv_own, gv_int, gv_bl, gv_str, gv_non, gv_tup, gv_lst, gv_scr, gv_ins, keptAt_eq, kp_some, mi_own, mi_bor, mi_int, mi_bl, mi_str, mi_non, mi_tup, mi_lst, mi_scr, mi_ins, mvAt_eq, mv_some, mv_own, mv_bor, mv_int, mv_bl, mv_str, mv_non, mv_tup, mv_lst, mv_scr, mv_ins,
  fz_own, fz_l, fz_i, fzI, fz_bl, fz_str, fz_non, fzT, fz_lst, fz_scr, fz_ins, fz_set, fz_ty, fz_gl, b_int, i_add, u_neg, u_inv, c_lt, c_le, c_gt, c_ge, c_eqI, c_neI, c_eqB, c_isN, c_notN, t_bl, t_int, t_non, t_tup, t_lst, x_tup, x_lst, x_scr, s_lst, s_scr,
  l_len1, l_len2, l_len3, l_int, l_abs, l_tup, l_tup2, l_list, l_list2, l_max, l_min, l_isi, nil_out, out_int, out_bl, out_tup, out_lst, out_scr, out_ins, out_non, out_bor, nO, tB, tI, back_eq, put_none,
  List.map_cons, List.map_nil, List.length_cons, List.length_nil, List.replicate, List.getElem?_cons_zero, List.getElem?_cons_succ, List.append_nil, List.nil_append, List.cons_append, List.set_cons_zero, List.set_cons_succ, Option.map_some, Option.isSome_some, Option.isSome_none, if_true, if_false, ite_true, ite_false, Bool.false_eq_true, reduceCtorEq, Nat.reduceAdd, Nat.reduceSub, fg lk_c, fg lk_m] <;> try dsimp only [Dx.D.fz, Dx.MV.fz])
  rw [calO_eq (bag_d (bag_d bag_nil)) (s_chk2 (by omega))]
  (simp -dsimp only [evB, evS, evE, evT, evL, evA, evA1, evI, evP, evC, asgG, asgL, stoD, bind_eq, it_tup, it_lst, Nat.reduceLT, sz_0, sz_1, sz_2, sz_3, sz_4, sz_5, sz_6, sz_7, sz_8, wipe_nil, wipe_cons, Nat.zero_lt_succ, Nat.not_lt_zero, decide_true, decide_false, lift_some, thenF_nx, thenF_ret, back_none', fin_ret, fin_nx, startN,
  getVar_eq, gv_own, gv_int, gv_bl, gv_str, gv_non, gv_tup, gv_lst, gv_scr, gv_ins, keptAt_eq, kp_some, mi_own, mi_bor, mi_int, mi_bl, mi_str, mi_non, mi_tup, mi_lst, mi_scr, mi_ins, mvAt_eq, mv_some, mv_own, mv_bor, mv_int, mv_bl, mv_str, mv_non, mv_tup, mv_lst, mv_scr, mv_ins,
  fz_own, fz_l, fz_i, fzI, fz_bl, fz_str, fz_non, fzT, fz_lst, fz_scr, fz_ins, fz_set, fz_ty, fz_gl, b_int, i_add, u_neg, u_inv, c_lt, c_le, c_gt, c_ge, c_eqI, c_neI, c_eqB, c_isN, c_notN, t_bl, t_int, t_non, t_tup, t_lst, x_tup, x_lst, x_scr, s_lst, s_scr,
  l_len1, l_len2, l_len3, l_int, l_abs, l_tup, l_tup2, l_list, l_list2, l_max, l_min, l_isi, nil_out, out_int, out_bl, out_tup, out_lst, out_scr, out_ins, out_non, out_bor, nO, tB, tI, back_eq, put_none,
  List.map_cons, List.map_nil, List.length_cons, List.length_nil, List.replicate, List.getElem?_cons_zero, List.getElem?_cons_succ, List.append_nil, List.nil_append, List.cons_append, List.set_cons_zero, List.set_cons_succ, Option.map_some, Option.isSome_some, Option.isSome_none, if_true, if_false, ite_true, ite_false, Bool.false_eq_true, reduceCtorEq, Nat.reduceAdd, Nat.reduceSub, fg lk_c, fg lk_m, n_and] <;> try dsimp only [Dx.D.fz, Dx.MV.fz])
  rw [calO_eq (bag_d (bag_d bag_nil)) (ofmask' hj va.pos va.le (Nat.and_lt_two_pow _ (vm vb)))]
  (simp -dsimp only [evB, evS, evE, evT, evL, evA, evA1, evI, evP, evC, asgG, asgL, stoD, bind_eq, it_tup, it_lst, Nat.reduceLT, sz_0, sz_1, sz_2, sz_3, sz_4, sz_5, sz_6, sz_7, sz_8, wipe_nil, wipe_cons, Nat.zero_lt_succ, Nat.not_lt_zero, decide_true, decide_false, lift_some, thenF_nx, thenF_ret, back_none', fin_ret, fin_nx, startN,
  getVar_eq, gv_own, gv_int, gv_bl, gv_str, gv_non, gv_tup, gv_lst, gv_scr, gv_ins, keptAt_eq, kp_some, mi_own, mi_bor, mi_int, mi_bl, mi_str, mi_non, mi_tup, mi_lst, mi_scr, mi_ins, mvAt_eq, mv_some, mv_own, mv_bor, mv_int, mv_bl, mv_str, mv_non, mv_tup, mv_lst, mv_scr, mv_ins,
  fz_own, fz_l, fz_i, fzI, fz_bl, fz_str, fz_non, fzT, fz_lst, fz_scr, fz_ins, fz_set, fz_ty, fz_gl, b_int, i_add, u_neg, u_inv, c_lt, c_le, c_gt, c_ge, c_eqI, c_neI, c_eqB, c_isN, c_notN, t_bl, t_int, t_non, t_tup, t_lst, x_tup, x_lst, x_scr, s_lst, s_scr,
  l_len1, l_len2, l_len3, l_int, l_abs, l_tup, l_tup2, l_list, l_list2, l_max, l_min, l_isi, nil_out, out_int, out_bl, out_tup, out_lst, out_scr, out_ins, out_non, out_bor, nO, tB, tI, back_eq, put_none,
  List.map_cons, List.map_nil, List.length_cons, List.length_nil, List.replicate, List.getElem?_cons_zero, List.getElem?_cons_succ, List.append_nil, List.nil_append, List.cons_append, List.set_cons_zero, List.set_cons_succ, Option.map_some, Option.isSome_some, Option.isSome_none, if_true, if_false, ite_true, ite_false, Bool.false_eq_true, reduceCtorEq, Nat.reduceAdd, Nat.reduceSub] <;> try dsimp only [Dx.D.fz, Dx.MV.fz])
theorem whole_lt {c : Nat} : 1 <<< c - 1 < 2 ^ c := by
  rw [Nat.shiftLeft_eq]
  have := Nat.two_pow_pos c
  omega
theorem s_inv {n c : Nat} {ra : List Nat} (hn : 7 ≤ n) (va : Valid c ra) : RT n (.m "Hours" "__invert__") [hoursD c ra] = .ok (ownH c (bitsL (maskN ra ^^^ (1 <<< c - 1)))) [] := by
  obtain ⟨j, rfl, hj⟩ := pos_of hn
  rw [RT, run_of t_inv rfl]
  (simp -dsimp only [evB, evS, evE, evT, evL, evA, evA1, evI, evP, evC, asgG, asgL, stoD, bind_eq, it_tup, it_lst, Nat.reduceLT, sz_0, sz_1, sz_2, sz_3, sz_4, sz_5, sz_6, sz_7, sz_8, wipe_nil, wipe_cons, Nat.zero_lt_succ, Nat.not_lt_zero, decide_true, decide_false, lift_some, thenF_nx, thenF_ret, back_none', fin_ret, fin_nx, startN,
  getVar_eq, gv_own, gv_int, gv_bl, gv_str, gv_non, gv_tup, gv_lst, gv_scr, gv_ins, keptAt_eq, kp_some, mi_own, mi_bor, mi_int, mi_bl, mi_str, mi_non, mi_tup, mi_lst, mi_scr, mi_ins, mvAt_eq, mv_some, mv_own, mv_bor, mv_int, mv_bl, mv_str, mv_non, mv_tup, mv_lst, mv_scr, mv_ins,
  fz_own, fz_l, fz_i, fzI, fz_bl, fz_str, fz_non, fzT, fz_lst, fz_scr, fz_ins, fz_set, fz_ty, fz_gl, b_int, i_add, u_neg, u_inv, c_lt, c_le, c_gt, c_ge, c_eqI, c_neI, c_eqB, c_isN, c_notN, t_bl, t_int, t_non, t_tup, t_lst, x_tup, x_lst, x_scr, s_lst, s_scr,
  l_len1, l_len2, l_len3, l_int, l_abs, l_tup, l_tup2, l_list, l_list2, l_max, l_min, l_isi, nil_out, out_int, out_bl, out_tup, out_lst, out_scr, out_ins, out_non, out_bor, nO, tB, tI, back_eq, put_none,
  List.map_cons, List.map_nil, List.length_cons, List.length_nil, List.replicate, List.getElem?_cons_zero, List.getElem?_cons_succ, List.append_nil, List.nil_append, List.cons_append, List.set_cons_zero, List.set_cons_succ, Option.map_some, Option.isSome_some, Option.isSome_none, if_true, if_false, ite_true, ite_false, Bool.false_eq_true, reduceCtorEq, Nat.reduceAdd, Nat.reduceSub, fg lk_c, fg lk_m] <;> try dsimp only [Dx.D.fz, Dx.MV.fz])
  rw [calO_eq (bag_d bag_nil) (s_whole (by omega) va.le)]
  (simp -dsimp only [evB, evS, evE, evT, evL, evA, evA1, evI, evP, evC, asgG, asgL, stoD, bind_eq, it_tup, it_lst, Nat.reduceLT, sz_0, sz_1, sz_2, sz_3, sz_4, sz_5, sz_6, sz_7, sz_8, wipe_nil, wipe_cons, Nat.zero_lt_succ, Nat.not_lt_zero, decide_true, decide_false, lift_some, thenF_nx, thenF_ret, back_none', fin_ret, fin_nx, startN,
  getVar_eq, gv_own, gv_int, gv_bl, gv_str, gv_non, gv_tup, gv_lst, gv_scr, gv_ins, keptAt_eq, kp_some, mi_own, mi_bor, mi_int, mi_bl, mi_str, mi_non, mi_tup, mi_lst, mi_scr, mi_ins, mvAt_eq, mv_some, mv_own, mv_bor, mv_int, mv_bl, mv_str, mv_non, mv_tup, mv_lst, mv_scr, mv_ins,
  fz_own, fz_l, fz_i, fzI, fz_bl, fz_str, fz_non, fzT, fz_lst, fz_scr, fz_ins, fz_set, fz_ty, fz_gl, b_int, i_add, u_neg, u_inv, c_lt, c_le, c_gt, c_ge, c_eqI, c_neI, c_eqB, c_isN, c_notN, t_bl, t_int, t_non, t_tup, t_lst, x_tup, x_lst, x_scr, s_lst, s_scr,
  l_len1, l_len2, l_len3, l_int, l_abs, l_tup, l_tup2, l_list, l_list2, l_max, l_min, l_isi, nil_out, out_int, out_bl, out_tup, out_lst, out_scr, out_ins, out_non, out_bor, nO, tB, tI, back_eq, put_none,
  List.map_cons, List.map_nil, List.length_cons, List.length_nil, List.replicate, List.getElem?_cons_zero, List.getElem?_cons_succ, List.append_nil, List.nil_append, List.cons_append, List.set_cons_zero, List.set_cons_succ, Option.map_some, Option.isSome_some, Option.isSome_none, if_true, if_false, ite_true, ite_false, Bool.false_eq_true, reduceCtorEq, Nat.reduceAdd, Nat.reduceSub, n_xor] <;> try dsimp only [Dx.D.fz, Dx.MV.fz])
  rw [calO_eq (bag_d (bag_d bag_nil)) (ofmask' hj va.pos va.le (Nat.xor_lt_two_pow (vm va) whole_lt))]
  (simp -dsimp only [evB, evS, evE, evT, evL, evA, evA1, evI, evP, evC, asgG, asgL, stoD, bind_eq, it_tup, it_lst, Nat.reduceLT, sz_0, sz_1, sz_2, sz_3, sz_4, sz_5, sz_6, sz_7, sz_8, wipe_nil, wipe_cons, Nat.zero_lt_succ, Nat.not_lt_zero, decide_true, decide_false, lift_some, thenF_nx, thenF_ret, back_none', fin_ret, fin_nx, startN,
  getVar_eq, gv_own, gv_int, gv_bl, gv_str, gv_non, gv_tup, gv_lst, gv_scr, gv_ins, keptAt_eq, kp_some, mi_own, mi_bor, mi_int, mi_bl, mi_str, mi_non, mi_tup, mi_lst, mi_scr, mi_ins, mvAt_eq, mv_some, mv_own, mv_bor, mv_int, mv_bl, mv_str, mv_non, mv_tup, mv_lst, mv_scr, mv_ins,
  fz_own, fz_l, fz_i, fzI, fz_bl, fz_str, fz_non, fzT, fz_lst, fz_scr, fz_ins, fz_set, fz_ty, fz_gl, b_int, i_add, u_neg, u_inv, c_lt, c_le, c_gt, c_ge, c_eqI, c_neI, c_eqB, c_isN, c_notN, t_bl, t_int, t_non, t_tup, t_lst, x_tup, x_lst, x_scr, s_lst, s_scr,
  l_len1, l_len2, l_len3, l_int, l_abs, l_tup, l_tup2, l_list, l_list2, l_max, l_min, l_isi, nil_out, out_int, out_bl, out_tup, out_lst, out_scr, out_ins, out_non, out_bor, nO, tB, tI, back_eq, put_none,
  List.map_cons, List.map_nil, List.length_cons, List.length_nil, List.replicate, List.getElem?_cons_zero, List.getElem?_cons_succ, List.append_nil, List.nil_append, List.cons_append, List.set_cons_zero, List.set_cons_succ, Option.map_some, Option.isSome_some, Option.isSome_none, if_true, if_false, ite_true, ite_false, Bool.false_eq_true, reduceCtorEq, Nat.reduceAdd, Nat.reduceSub] <;> try dsimp only [Dx.D.fz, Dx.MV.fz])
theorem s_mul {n c : Nat} {ra : List Nat} {f : Int} (hn : 7 ≤ n) (va : Valid c ra) : RT n (.m "Hours" "__mul__") [hoursD c ra, .int f] = .ok (ownH c (bitsL (scaleM c (maskN ra) f))) [] := by
  obtain ⟨j, rfl, hj⟩ := pos_of hn
  rw [RT, run_of t_mul rfl]
  (simp -dsimp only [evB, evS, evE, evT, evL, evA, evA1, evI, evP, evC, asgG, asgL, stoD, bind_eq, it_tup, it_lst, Nat.reduceLT, sz_0, sz_1, sz_2, sz_3, sz_4, sz_5, sz_6, sz_7, sz_8, wipe_nil, wipe_cons, Nat.zero_lt_succ, Nat.not_lt_zero, decide_true, decide_false, lift_some, thenF_nx, thenF_ret, back_none', fin_ret, fin_nx, startN,
  getVar_eq, gv_own, gv_int, gv_bl, gv_str, gv_non, gv_tup, gv_lst, gv_scr, gv_ins, keptAt_eq, kp_some, mi_own, mi_bor, mi_int, mi_bl, mi_str, mi_non, mi_tup, mi_lst, mi_scr, mi_ins, mvAt_eq, mv_some, mv_own, mv_bor, mv_int, mv_bl, mv_str, mv_non, mv_tup, mv_lst, mv_scr, mv_ins,
  fz_own, fz_l, fz_i, fzI, fz_bl, fz_str, fz_non, fzT, fz_lst, fz_scr, fz_ins, fz_set, fz_ty, fz_gl, b_int, i_add, u_neg, u_inv, c_lt, c_le, c_gt, c_ge, c_eqI, c_neI, c_eqB, c_isN, c_notN, t_bl, t_int, t_non, t_tup, t_lst, x_tup, x_lst, x_scr, s_lst, s_scr,
  l_len1, l_len2, l_len3, l_int, l_abs, l_tup, l_tup2, l_list, l_list2, l_max, l_min, l_isi, nil_out, out_int, out_bl, out_tup, out_lst, out_scr, out_ins, out_non, out_bor, nO, tB, tI, back_eq, put_none,
  List.map_cons, List.map_nil, List.length_cons, List.length_nil, List.replicate, List.getElem?_cons_zero, List.getElem?_cons_succ, List.append_nil, List.nil_append, List.cons_append, List.set_cons_zero, List.set_cons_succ, Option.map_some, Option.isSome_some, Option.isSome_none, if_true, if_false, ite_true, ite_false, Bool.false_eq_true, reduceCtorEq, Nat.reduceAdd, Nat.reduceSub, fg lk_c, fg lk_m] <;> try dsimp only [Dx.D.fz, Dx.MV.fz])
  rw [calO_eq (bag_d bag_nil) (s_chkint (by omega))]
  (simp -dsimp only [evB, evS, evE, evT, evL, evA, evA1, evI, evP, evC, asgG, asgL, stoD, bind_eq, it_tup, it_lst, Nat.reduceLT, sz_0, sz_1, sz_2, sz_3, sz_4, sz_5, sz_6, sz_7, sz_8, wipe_nil, wipe_cons, Nat.zero_lt_succ, Nat.not_lt_zero, decide_true, decide_false, lift_some, thenF_nx, thenF_ret, back_none', fin_ret, fin_nx, startN,
  getVar_eq, gv_own, gv_int, gv_bl, gv_str, gv_non, gv_tup, gv_lst, gv_scr, gv_ins, keptAt_eq, kp_some, mi_own, mi_bor, mi_int, mi_bl, mi_str, mi_non, mi_tup, mi_lst, mi_scr, mi_ins, mvAt_eq, mv_some, mv_own, mv_bor, mv_int, mv_bl, mv_str, mv_non, mv_tup, mv_lst, mv_scr, mv_ins,
  fz_own, fz_l, fz_i, fzI, fz_bl, fz_str, fz_non, fzT, fz_lst, fz_scr, fz_ins, fz_set, fz_ty, fz_gl, b_int, i_add, u_neg, u_inv, c_lt, c_le, c_gt, c_ge, c_eqI, c_neI, c_eqB, c_isN, c_notN, t_bl, t_int, t_non, t_tup, t_lst, x_tup, x_lst, x_scr, s_lst, s_scr,
  l_len1, l_len2, l_len3, l_int, l_abs, l_tup, l_tup2, l_list, l_list2, l_max, l_min, l_isi, nil_out, out_int, out_bl, out_tup, out_lst, out_scr, out_ins, out_non, out_bor, nO, tB, tI, back_eq, put_none,
  List.map_cons, List.map_nil, List.length_cons, List.length_nil, List.replicate, List.getElem?_cons_zero, List.getElem?_cons_succ, List.append_nil, List.nil_append, List.cons_append, List.set_cons_zero, List.set_cons_succ, Option.map_some, Option.isSome_some, Option.isSome_none, if_true, if_false, ite_true, ite_false, Bool.false_eq_true, reduceCtorEq, Nat.reduceAdd, Nat.reduceSub, fg lk_c, fg lk_m] <;> try dsimp only [Dx.D.fz, Dx.MV.fz])
  rw [calO_eq (bag_d (bag_d (bag_d bag_nil))) (s_scaled (by omega) va.pos va.le (vm va))]
  (simp -dsimp only [evB, evS, evE, evT, evL, evA, evA1, evI, evP, evC, asgG, asgL, stoD, bind_eq, it_tup, it_lst, Nat.reduceLT, sz_0, sz_1, sz_2, sz_3, sz_4, sz_5, sz_6, sz_7, sz_8, wipe_nil, wipe_cons, Nat.zero_lt_succ, Nat.not_lt_zero, decide_true, decide_false, lift_some, thenF_nx, thenF_ret, back_none', fin_ret, fin_nx, startN,
  getVar_eq, gv_own, gv_int, gv_bl, gv_str, gv_non, gv_tup, gv_lst, gv_scr, gv_ins, keptAt_eq, kp_some, mi_own, mi_bor, mi_int, mi_bl, mi_str, mi_non, mi_tup, mi_lst, mi_scr, mi_ins, mvAt_eq, mv_some, mv_own, mv_bor, mv_int, mv_bl, mv_str, mv_non, mv_tup, mv_lst, mv_scr, mv_ins,
  fz_own, fz_l, fz_i, fzI, fz_bl, fz_str, fz_non, fzT, fz_lst, fz_scr, fz_ins, fz_set, fz_ty, fz_gl, b_int, i_add, u_neg, u_inv, c_lt, c_le, c_gt, c_ge, c_eqI, c_neI, c_eqB, c_isN, c_notN, t_bl, t_int, t_non, t_tup, t_lst, x_tup, x_lst, x_scr, s_lst, s_scr,
  l_len1, l_len2, l_len3, l_int, l_abs, l_tup, l_tup2, l_list, l_list2, l_max, l_min, l_isi, nil_out, out_int, out_bl, out_tup, out_lst, out_scr, out_ins, out_non, out_bor, nO, tB, tI, back_eq, put_none,
  List.map_cons, List.map_nil, List.length_cons, List.length_nil, List.replicate, List.getElem?_cons_zero, List.getElem?_cons_succ, List.append_nil, List.nil_append, List.cons_append, List.set_cons_zero, List.set_cons_succ, Option.map_some, Option.isSome_some, Option.isSome_none, if_true, if_false, ite_true, ite_false, Bool.false_eq_true, reduceCtorEq, Nat.reduceAdd, Nat.reduceSub] <;> try dsimp only [Dx.D.fz, Dx.MV.fz])
  rw [calO_eq (bag_d (bag_d bag_nil)) (ofmask' hj va.pos va.le (scaleM_lt va.pos))]
  (simp -dsimp only [evB, evS, evE, evT, evL, evA, evA1, evI, evP, evC, asgG, asgL, stoD, bind_eq, it_tup, it_lst, Nat.reduceLT, sz_0, sz_1, sz_2, sz_3, sz_4, sz_5, sz_6, sz_7, sz_8, wipe_nil, wipe_cons, Nat.zero_lt_succ, Nat.not_lt_zero, decide_true, decide_false, lift_some, thenF_nx, thenF_ret, back_none', fin_ret, fin_nx, startN,
  getVar_eq, gv_own, gv_int, gv_bl, gv_str, gv_non, gv_tup, gv_lst, gv_scr, gv_ins, keptAt_eq, kp_some, mi_own, mi_bor, mi_int, mi_bl, mi_str, mi_non, mi_tup, mi_lst, mi_scr, mi_ins, mvAt_eq, mv_some, mv_own, mv_bor, mv_int, mv_bl, mv_str, mv_non, mv_tup, mv_lst, mv_scr, mv_ins,
  fz_own, fz_l, fz_i, fzI, fz_bl, fz_str, fz_non, fzT, fz_lst, fz_scr, fz_ins, fz_set, fz_ty, fz_gl, b_int, i_add, u_neg, u_inv, c_lt, c_le, c_gt, c_ge, c_eqI, c_neI, c_eqB, c_isN, c_notN, t_bl, t_int, t_non, t_tup, t_lst, x_tup, x_lst, x_scr, s_lst, s_scr,
  l_len1, l_len2, l_len3, l_int, l_abs, l_tup, l_tup2, l_list, l_list2, l_max, l_min, l_isi, nil_out, out_int, out_bl, out_tup, out_lst, out_scr, out_ins, out_non, out_bor, nO, tB, tI, back_eq, put_none,
  List.map_cons, List.map_nil, List.length_cons, List.length_nil, List.replicate, List.getElem?_cons_zero, List.getElem?_cons_succ, List.append_nil, List.nil_append, List.cons_append, List.set_cons_zero, List.set_cons_succ, Option.map_some, Option.isSome_some, Option.isSome_none, if_true, if_false, ite_true, ite_false, Bool.false_eq_true, reduceCtorEq, Nat.reduceAdd, Nat.reduceSub] <;> try dsimp only [Dx.D.fz, Dx.MV.fz])
theorem dat_nats : ∀ hs : List Nat, datL (natsD hs) = some (hs.map fun h : Nat => PyData.int (h : Int))
  | [] => rfl
  | h :: hs => by
    show datL (D.int (h : Int) :: natsD hs) = _
    unfold datL
    rw [dat_nats hs]
    rfl

theorem eqvAll_nats : ∀ a b : List Nat, PyData.eqvAll (a.map fun h : Nat => PyData.int (h : Int)) (b.map fun h : Nat => PyData.int (h : Int)) = decide (a = b)
  | [], [] => rfl
  | [], y :: ys => by simp [PyData.eqvAll]
  | x :: xs, [] => by simp [PyData.eqvAll]
  | x :: xs, y :: ys => by
    rw [List.map_cons, List.map_cons]
    unfold PyData.eqvAll
    rw [eqvAll_nats xs ys]
    unfold PyData.eqv
    by_cases h : x = y
    · subst h; simp
    · simp [h]
      intro e; omega
theorem dat_tupN (hs : List Nat) : D.dat (.tup (natsD hs)) = some (.tuple (hs.map fun h : Nat => PyData.int (h : Int))) := by
  unfold D.dat
  rw [dat_nats]
  rfl
theorem shaped_nats (hs : List Nat) : SeqAt.shaped (.tuple (hs.map fun h : Nat => PyData.int (h : Int))) = true := by
  have := shaped_tup (hs.map fun h : Nat => (h : Int))
  rw [List.map_map] at this
  exact this
theorem eq_tups (a b : List Nat) : eqD (.tup (natsD a)) (.tup (natsD b)) = some (decide (a = b)) := by
  unfold eqD
  simp only [dat_tupN, shaped_nats, and_self, if_true]
  unfold PyData.eqv
  rw [eqvAll_nats]
theorem c_tups {C : Cal} {ρ : En} (a b : List Nat) : cmpO C .Eq (.tup (natsD a)) (.tup (natsD b)) ρ = .ok (decide (a = b)) ρ := by
  have e : cmpO C .Eq (.tup (natsD a)) (.tup (natsD b)) ρ = lift (eqD (.tup (natsD a)) (.tup (natsD b))) ρ := rfl
  rw [e, eq_tups]; rfl
theorem s_eq {n c : Nat} {ra rb : List Nat} (hn : 1 ≤ n) : RT n (.m "Hours" "__eq__") [hoursD c ra, hoursD c rb] = .ok (.bl (decide (ra = rb))) [] := by
  obtain ⟨j, rfl, hj⟩ := pos_of hn
  rw [RT, run_of t_eq rfl]
  (simp -dsimp only [evB, evS, evE, evT, evL, evA, evA1, evI, evP, evC, asgG, asgL, stoD, bind_eq, it_tup, it_lst, Nat.reduceLT, sz_0, sz_1, sz_2, sz_3, sz_4, sz_5, sz_6, sz_7, sz_8, wipe_nil, wipe_cons, Nat.zero_lt_succ, Nat.not_lt_zero, decide_true, decide_false, lift_some, thenF_nx, thenF_ret, back_none', fin_ret, fin_nx, startN,
  getVar_eq, gv_own, gv_int, gv_bl, gv_str, gv_non, gv_tup, gv_lst, gv_scr, gv_ins, keptAt_eq, kp_some, mi_own, mi_bor, mi_int, mi_bl, mi_str, mi_non, mi_tup, mi_lst, mi_scr, mi_ins, mvAt_eq, mv_some, mv_own, mv_bor, mv_int, mv_bl, mv_str, mv_non, mv_tup, mv_lst, mv_scr, mv_ins,
  fz_own, fz_l, fz_i, fzI, fz_bl, fz_str, fz_non, fzT, fz_lst, fz_scr, fz_ins, fz_set, fz_ty, fz_gl, b_int, i_add, u_neg, u_inv, c_lt, c_le, c_gt, c_ge, c_eqI, c_neI, c_eqB, c_isN, c_notN, t_bl, t_int, t_non, t_tup, t_lst, x_tup, x_lst, x_scr, s_lst, s_scr,
  l_len1, l_len2, l_len3, l_int, l_abs, l_tup, l_tup2, l_list, l_list2, l_max, l_min, l_isi, nil_out, out_int, out_bl, out_tup, out_lst, out_scr, out_ins, out_non, out_bor, nO, tB, tI, back_eq, put_none,
  List.map_cons, List.map_nil, List.length_cons, List.length_nil, List.replicate, List.getElem?_cons_zero, List.getElem?_cons_succ, List.append_nil, List.nil_append, List.cons_append, List.set_cons_zero, List.set_cons_succ, Option.map_some, Option.isSome_some, Option.isSome_none, if_true, if_false, ite_true, ite_false, Bool.false_eq_true, reduceCtorEq, Nat.reduceAdd, Nat.reduceSub, fg lk_c, fg lk_h, isi_hours, decide_true, c_tups] <;> try dsimp only [Dx.D.fz, Dx.MV.fz])
/-- == and != of two on one clock -/
theorem c_eqH {n c : Nat} {ra rb : List Nat} {ρ : En} (hn : 1 ≤ n) : cmpO (RT n) .Eq (hoursD c ra) (hoursD c rb) ρ = .ok (decide (ra = rb)) ρ := by
  have e : cmpO (RT n) .Eq (hoursD c ra) (hoursD c rb) ρ = (if ("Hours" : Str) = "Hours" then asB (back ρ none (RT n (.m "Hours" "__eq__") [hoursD c ra, hoursD c rb])) else .stuck) := rfl
  rw [e, if_pos rfl, s_eq hn]
  rfl
theorem c_neH {n c : Nat} {ra rb : List Nat} {ρ : En} (hn : 1 ≤ n) : cmpO (RT n) .NotEq (hoursD c ra) (hoursD c rb) ρ = .ok (!decide (ra = rb)) ρ := by
  have e : cmpO (RT n) .NotEq (hoursD c ra) (hoursD c rb) ρ = (if ("Hours" : Str) = "Hours" then (asB (back ρ none (RT n (.m "Hours" "__eq__") [hoursD c ra, hoursD c rb]))).bind fun k ρ => .ok (!k) ρ else .stuck) := rfl
  rw [e, if_pos rfl, s_eq hn]
  rfl

theorem t_purse : m.T (.f "_law_purse") =   some
    { np := 2, ns := 5, mu := [false, false],
      body :=
        [IS.set 2
            (IE.ife (IT.cmp CmpOp.Lt (IE.var 1) (IE.lev 0)) (IE.idv 0 (IE.var 1))
              (IE.bin Operator.Mult (IE.cst (D.int 7919)) (IE.bin Operator.Add (IE.var 1) (IE.cst (D.int 5))))),
          IS.set 3 (IE.bin Operator.Add (IE.cst (D.int 211)) (IE.var 1)),
          IS.for (IG.nm 4)
            (II.of (IE.bin Operator.Add (IE.slc (IE.var 0) none (some (IE.cst (D.int 5)))) (IE.lst [IE.var 2])))
            [IS.set 3
                (IE.bin Operator.Mod
                  (IE.blt Bf.int
                    [IE.bin Operator.Add
                        (IE.bin Operator.Add (IE.bin Operator.Mult (IE.var 3) (IE.cst (D.int 48271)))
                          (IE.bin Operator.Mod (IE.blt Bf.int [IE.var 4]) (IE.cst (D.int 2147483647))))
                        (IE.cst (D.int 101))])
                  (IE.cst (D.int 2147483647)))],
          IS.ret
            (some
              (IE.lst
                [IE.ife
                    (IT.cmp CmpOp.GtE (IE.blt Bf.abs [IE.var 2])
                      (IE.bin Operator.Pow (IE.cst (D.int 10)) (IE.cst (D.int 18))))
                    (IE.blt Bf.abs [IE.var 2]) (IE.cst (D.int 0)),
                  IE.var 3]))] } := by kernel_rfl
theorem t_draw : m.T (.f "_law_draw") =   some
    { np := 2, ns := 3, mu := [true, false],
      body :=
        [IS.ite (IT.cmp CmpOp.Gt (IE.idv 0 (IE.cst (D.int 0))) (IE.cst (D.int 0)))
            [IS.asg (IG.tp [IG.sub 0 (IE.cst (D.int 0)), IG.nm 2])
                (IE.blt Bf.divmod [IE.idv 0 (IE.cst (D.int 0)), IE.var 1]),
              IS.ret (some (IE.var 2))]
            [],
          IS.asg (IG.sub 0 (IE.cst (D.int 1)))
            (IE.bin Operator.Mod
              (IE.blt Bf.int
                [IE.bin Operator.Add (IE.bin Operator.Mult (IE.idv 0 (IE.cst (D.int 1))) (IE.cst (D.int 69621)))
                    (IE.cst (D.int 40503))])
              (IE.cst (D.int 2147483647))),
          IS.ret
            (some
              (IE.bin Operator.Mod
                (IE.blt Bf.int [IE.bin Operator.FloorDiv (IE.idv 0 (IE.cst (D.int 1))) (IE.cst (D.int 1024))])
                (IE.var 1)))] } := by kernel_rfl
theorem t_some : m.T (.f "_law_some") =   some
    { np := 2, ns := 4, mu := [true, false],
      body :=
        [IS.set 2
            (IE.bin Operator.Add (IE.cst (D.int 2))
              (IE.cal (Str.ofString "_law_draw") [IA.var 0, IA.of (IE.cst (D.int 4))] [])),
          IS.ret
            (some
              (IE.blt Bf.tuple
                [IE.lcm (IE.var 3) [3] (IG.nm 3) (II.rng [IE.var 1])
                    (some
                      (IT.cmp CmpOp.Eq (IE.cal (Str.ofString "_law_draw") [IA.var 0, IA.of (IE.var 2)] [])
                        (IE.cst (D.int 0))))]))] } := by kernel_rfl
theorem t_lsums : m.T (.f "_law_sums") =   some
    { np := 3, ns := 6, mu := [false, false, false],
      body :=
        [IS.set 3 (IE.lst []),
          IS.for (IG.nm 4) (II.of (IE.var 1))
            [IS.set 3
                (IE.bin Operator.Add (IE.var 3)
                  (IE.lcm (IE.bin Operator.Mod (IE.blt Bf.int [IE.bin Operator.Add (IE.var 4) (IE.var 5)]) (IE.var 0))
                    [5] (IG.nm 5) (II.of (IE.var 2)) none))],
          IS.ret (some (IE.blt Bf.tuple [IE.blt Bf.sorted [IE.blt Bf.set [IE.var 3]]]))] } := by kernel_rfl
theorem t_law : m.T (.f "law") =   some
    { np := 1, ns := 2, mu := [false],
      body :=
        [IS.ret
            (some
              (IE.blt Bf.all
                [IE.lcm
                    (IE.cas (Str.ofString "_law_right") (Str.ofString "_law_purse") [IA.of (IE.var 0), IA.of (IE.var 1)]
                      [])
                    [1] (IG.nm 1)
                    (II.rng [IE.blt Bf.max [IE.cst (D.int 2), IE.blt Bf.min [IE.lev 0, IE.cst (D.int 4)]]]) none]))] } := by kernel_rfl
abbrev purse (p : Int × Int) : MV := .lst [.int p.1, .int p.2]
def Pu (p : Int × Int) : Prop := 0 ≤ p.1 ∧ 0 ≤ p.2 ∧ p.2 < 2147483647
section
variable {C : Cal} {x y d : D} {a k : Int} {i : Nat} {ρ : En} {xs : List D}
def idvK (o : Option (List D)) (k : Int) (ρ : En) : OE := match o with
  | some xs => lift (L2.atI xs k) ρ
  | none => .stuck
theorem idv_eq : idvO i (.int k) ρ = idvK (keptAt i ρ) k ρ := (rfl)
theorem idv_some {z : D} (h : L2.atI xs k = some z) : idvK (some xs) k ρ = .ok z ρ := by
  show lift _ _ = _
  rw [h]; rfl
theorem at2_0 : L2.atI [x, y] 0 = some x := (rfl)
theorem at2_1 : L2.atI [x, y] 1 = some y := (rfl)
theorem sub_0 : subO 0 (.int 0) d (some (.bor (.lst [x, y])) :: ρ) = .ok () (some (.bor (.lst [d, y])) :: ρ) := (rfl)
theorem sub_1 : subO 0 (.int 1) d (some (.bor (.lst [x, y])) :: ρ) = .ok () (some (.bor (.lst [x, d])) :: ρ) := (rfl)
end
theorem s_draw {n : Nat} {p : Int × Int} {many : Int} (hn : 1 ≤ n) (hp : Pu p) (h1 : 0 < many) (h2 : many < 1073741824) : ∃ d q, RT n (.f "_law_draw") [.bor (purse p), .int many] = .ok (.int d) [purse q] ∧ (0 ≤ d ∧ d < many) ∧ Pu q := by
  obtain ⟨j, rfl, hj⟩ := pos_of hn
  obtain ⟨p0, p1⟩ := p
  obtain ⟨a1, a2, a3⟩ := hp
  simp only [] at a1 a2 a3
  rw [RT, run_of t_draw rfl]
  (simp -dsimp only [evB, evS, evE, evT, evL, evA, evA1, evI, evP, evC, asgG, asgL, stoD, bind_eq, it_tup, it_lst, Nat.reduceLT, sz_0, sz_1, sz_2, sz_3, sz_4, sz_5, sz_6, sz_7, sz_8, wipe_nil, wipe_cons, Nat.zero_lt_succ, Nat.not_lt_zero, decide_true, decide_false, lift_some, thenF_nx, thenF_ret, back_none', fin_ret, fin_nx, startN,
  getVar_eq, gv_own, gv_int, gv_bl, gv_str, gv_non, gv_tup, gv_lst, gv_scr, gv_ins, keptAt_eq, kp_some, mi_own, mi_bor, mi_int, mi_bl, mi_str, mi_non, mi_tup, mi_lst, mi_scr, mi_ins, mvAt_eq, mv_some, mv_own, mv_bor, mv_int, mv_bl, mv_str, mv_non, mv_tup, mv_lst, mv_scr, mv_ins,
  fz_own, fz_l, fz_i, fzI, fz_bl, fz_str, fz_non, fzT, fz_lst, fz_scr, fz_ins, fz_set, fz_ty, fz_gl, b_int, i_add, u_neg, u_inv, c_lt, c_le, c_gt, c_ge, c_eqI, c_neI, c_eqB, c_isN, c_notN, t_bl, t_int, t_non, t_tup, t_lst, x_tup, x_lst, x_scr, s_lst, s_scr,
  l_len1, l_len2, l_len3, l_int, l_abs, l_tup, l_tup2, l_list, l_list2, l_max, l_min, l_isi, nil_out, out_int, out_bl, out_tup, out_lst, out_scr, out_ins, out_non, out_bor, nO, tB, tI, back_eq, put_none,
  List.map_cons, List.map_nil, List.length_cons, List.length_nil, List.replicate, List.getElem?_cons_zero, List.getElem?_cons_succ, List.append_nil, List.nil_append, List.cons_append, List.set_cons_zero, List.set_cons_succ, Option.map_some, Option.isSome_some, Option.isSome_none, if_true, if_false, ite_true, ite_false, Bool.false_eq_true, reduceCtorEq, Nat.reduceAdd, Nat.reduceSub, idv_eq, idv_some at2_0, idv_some at2_1] <;> try dsimp only [Dx.D.fz, Dx.MV.fz])
  by_cases h : 0 < p0
  · refine ⟨p0 % many, (p0 / many, p1), ?_, ⟨Int.emod_nonneg _ (by omega), Int.emod_lt_of_pos _ h1⟩, Int.ediv_nonneg a1 (by omega), a2, a3⟩
    rw [decide_eq_true h]
    (simp -dsimp only [evB, evS, evE, evT, evL, evA, evA1, evI, evP, evC, asgG, asgL, stoD, bind_eq, it_tup, it_lst, Nat.reduceLT, sz_0, sz_1, sz_2, sz_3, sz_4, sz_5, sz_6, sz_7, sz_8, wipe_nil, wipe_cons, Nat.zero_lt_succ, Nat.not_lt_zero, decide_true, decide_false, lift_some, thenF_nx, thenF_ret, back_none', fin_ret, fin_nx, startN,
  getVar_eq, gv_own, gv_int, gv_bl, gv_str, gv_non, gv_tup, gv_lst, gv_scr, gv_ins, keptAt_eq, kp_some, mi_own, mi_bor, mi_int, mi_bl, mi_str, mi_non, mi_tup, mi_lst, mi_scr, mi_ins, mvAt_eq, mv_some, mv_own, mv_bor, mv_int, mv_bl, mv_str, mv_non, mv_tup, mv_lst, mv_scr, mv_ins,
  fz_own, fz_l, fz_i, fzI, fz_bl, fz_str, fz_non, fzT, fz_lst, fz_scr, fz_ins, fz_set, fz_ty, fz_gl, b_int, i_add, u_neg, u_inv, c_lt, c_le, c_gt, c_ge, c_eqI, c_neI, c_eqB, c_isN, c_notN, t_bl, t_int, t_non, t_tup, t_lst, x_tup, x_lst, x_scr, s_lst, s_scr,
  l_len1, l_len2, l_len3, l_int, l_abs, l_tup, l_tup2, l_list, l_list2, l_max, l_min, l_isi, nil_out, out_int, out_bl, out_tup, out_lst, out_scr, out_ins, out_non, out_bor, nO, tB, tI, back_eq, put_none,
  List.map_cons, List.map_nil, List.length_cons, List.length_nil, List.replicate, List.getElem?_cons_zero, List.getElem?_cons_succ, List.append_nil, List.nil_append, List.cons_append, List.set_cons_zero, List.set_cons_succ, Option.map_some, Option.isSome_some, Option.isSome_none, if_true, if_false, ite_true, ite_false, Bool.false_eq_true, reduceCtorEq, Nat.reduceAdd, Nat.reduceSub, l_dm (a := p0) (b := many) ⟨h1, h2⟩, sub_0] <;> try dsimp only [Dx.D.fz, Dx.MV.fz])
  · refine ⟨((p1 * 69621 + 40503) % 2147483647 / 1024) % many, (p0, (p1 * 69621 + 40503) % 2147483647), ?_, ⟨Int.emod_nonneg _ (by omega), Int.emod_lt_of_pos _ h1⟩, a1, Int.emod_nonneg _ (by omega), Int.emod_lt_of_pos _ (by omega)⟩
    rw [decide_eq_false h]
    (simp -dsimp only [evB, evS, evE, evT, evL, evA, evA1, evI, evP, evC, asgG, asgL, stoD, bind_eq, it_tup, it_lst, Nat.reduceLT, sz_0, sz_1, sz_2, sz_3, sz_4, sz_5, sz_6, sz_7, sz_8, wipe_nil, wipe_cons, Nat.zero_lt_succ, Nat.not_lt_zero, decide_true, decide_false, lift_some, thenF_nx, thenF_ret, back_none', fin_ret, fin_nx, startN,
  getVar_eq, gv_own, gv_int, gv_bl, gv_str, gv_non, gv_tup, gv_lst, gv_scr, gv_ins, keptAt_eq, kp_some, mi_own, mi_bor, mi_int, mi_bl, mi_str, mi_non, mi_tup, mi_lst, mi_scr, mi_ins, mvAt_eq, mv_some, mv_own, mv_bor, mv_int, mv_bl, mv_str, mv_non, mv_tup, mv_lst, mv_scr, mv_ins,
  fz_own, fz_l, fz_i, fzI, fz_bl, fz_str, fz_non, fzT, fz_lst, fz_scr, fz_ins, fz_set, fz_ty, fz_gl, b_int, i_add, u_neg, u_inv, c_lt, c_le, c_gt, c_ge, c_eqI, c_neI, c_eqB, c_isN, c_notN, t_bl, t_int, t_non, t_tup, t_lst, x_tup, x_lst, x_scr, s_lst, s_scr,
  l_len1, l_len2, l_len3, l_int, l_abs, l_tup, l_tup2, l_list, l_list2, l_max, l_min, l_isi, nil_out, out_int, out_bl, out_tup, out_lst, out_scr, out_ins, out_non, out_bor, nO, tB, tI, back_eq, put_none,
  List.map_cons, List.map_nil, List.length_cons, List.length_nil, List.replicate, List.getElem?_cons_zero, List.getElem?_cons_succ, List.append_nil, List.nil_append, List.cons_append, List.set_cons_zero, List.set_cons_succ, Option.map_some, Option.isSome_some, Option.isSome_none, if_true, if_false, ite_true, ite_false, Bool.false_eq_true, reduceCtorEq, Nat.reduceAdd, Nat.reduceSub, i_mul (a := p1) (b := 69621) (mulOk_l (by omega)), i_mod (a := p1 * 69621 + 40503) (b := 2147483647) (by omega), sub_1, idv_eq, idv_some at2_1, i_div (a := (p1 * 69621 + 40503) % 2147483647) (b := 1024) (by omega), i_mod (a := (p1 * 69621 + 40503) % 2147483647 / 1024) (b := many) h1] <;> try dsimp only [Dx.D.fz, Dx.MV.fz])

theorem po_bor {m m' : MV} {ρ : En} : putOut (some (.bor m) :: ρ) (some 0) [m'] = some (.bor m') :: ρ := rfl
theorem po_own {m m' : MV} {ρ : En} : putOut (some (.own m) :: ρ) (some 0) [m'] = some (.own m') :: ρ := rfl
theorem mv0_bor {m : MV} {ρ : En} : mvAt 0 (some (.bor m) :: ρ) = some m := rfl
theorem mv0_own {m : MV} {ρ : En} : mvAt 0 (some (.own m) :: ρ) = some m := rfl
/-- a comprehension that keeps some -/
theorem lcD_sub {step : D → En → Out (Option D) En} (I : En → Prop) : ∀ {hs : List Nat} {ρ : En}, I ρ → (∀ k ρ, k ∈ hs → I ρ → ∃ ρ', (step (.int (k : Int)) ρ = .ok (some (.int (k : Int))) ρ' ∨ step (.int (k : Int)) ρ = .ok none ρ') ∧ I ρ') →
    ∃ row ρ', lcD step (natsD hs) ρ = .ok (natsD row) ρ' ∧ row.Sublist hs ∧ I ρ'
  | [], ρ, h, _ => ⟨[], ρ, rfl, .slnil, h⟩
  | k :: ks, ρ, h, hs => by
    obtain ⟨ρ1, e, h1⟩ := hs k ρ (List.mem_cons_self ..) h
    obtain ⟨row, ρ2, e2, s, h2⟩ := lcD_sub I (hs := ks) h1 fun k ρ hk => hs k ρ (List.mem_cons_of_mem _ hk)
    have u : lcD step (natsD (k :: ks)) ρ = (step (.int (k : Int)) ρ).bind fun o ρ1 => (lcD step (natsD ks) ρ1).bind fun ys ρ2 => .ok (o.toList ++ ys) ρ2 := rfl
    rcases e with e | e
    · refine ⟨k :: row, ρ2, ?_, s.cons₂ k, h2⟩
      rw [u, e, bind_eq, e2, bind_eq]
      rfl
    · refine ⟨row, ρ2, ?_, s.cons k, h2⟩
      rw [u, e, bind_eq, e2, bind_eq]
      rfl
theorem s_some {n : Nat} {p : Int × Int} {many : Nat} (hn : 2 ≤ n) (hp : Pu p) (h1 : 1 ≤ many) (h2 : many ≤ 240) : ∃ row q, RT n (.f "_law_some") [.bor (purse p), .int (many : Int)] = .ok (.tup (natsD row)) [purse q] ∧ Valid many row ∧ Pu q := by
  obtain ⟨j, rfl, hj⟩ := pos_of hn
  rw [RT, run_of t_some rfl]
  obtain ⟨d, q, e, ⟨d1, d2⟩, hq⟩ := s_draw (n := j) (many := 4) hj hp (by decide) (by decide)
  (simp -dsimp only [evB, evS, evE, evT, evL, evA, evA1, evI, evP, evC, asgG, asgL, stoD, bind_eq, it_tup, it_lst, Nat.reduceLT, sz_0, sz_1, sz_2, sz_3, sz_4, sz_5, sz_6, sz_7, sz_8, wipe_nil, wipe_cons, Nat.zero_lt_succ, Nat.not_lt_zero, decide_true, decide_false, lift_some, thenF_nx, thenF_ret, back_none', fin_ret, fin_nx, startN,
  getVar_eq, gv_own, gv_int, gv_bl, gv_str, gv_non, gv_tup, gv_lst, gv_scr, gv_ins, keptAt_eq, kp_some, mi_own, mi_bor, mi_int, mi_bl, mi_str, mi_non, mi_tup, mi_lst, mi_scr, mi_ins, mvAt_eq, mv_some, mv_own, mv_bor, mv_int, mv_bl, mv_str, mv_non, mv_tup, mv_lst, mv_scr, mv_ins,
  fz_own, fz_l, fz_i, fzI, fz_bl, fz_str, fz_non, fzT, fz_lst, fz_scr, fz_ins, fz_set, fz_ty, fz_gl, b_int, i_add, u_neg, u_inv, c_lt, c_le, c_gt, c_ge, c_eqI, c_neI, c_eqB, c_isN, c_notN, t_bl, t_int, t_non, t_tup, t_lst, x_tup, x_lst, x_scr, s_lst, s_scr,
  l_len1, l_len2, l_len3, l_int, l_abs, l_tup, l_tup2, l_list, l_list2, l_max, l_min, l_isi, nil_out, out_int, out_bl, out_tup, out_lst, out_scr, out_ins, out_non, out_bor, nO, tB, tI, back_eq, put_none,
  List.map_cons, List.map_nil, List.length_cons, List.length_nil, List.replicate, List.getElem?_cons_zero, List.getElem?_cons_succ, List.append_nil, List.nil_append, List.cons_append, List.set_cons_zero, List.set_cons_succ, Option.map_some, Option.isSome_some, Option.isSome_none, if_true, if_false, ite_true, ite_false, Bool.false_eq_true, reduceCtorEq, Nat.reduceAdd, Nat.reduceSub] <;> try dsimp only [Dx.D.fz, Dx.MV.fz])
  rw [calO_eq (bag_len mv0_bor (bag_d bag_nil)) e]
  (simp -dsimp only [evB, evS, evE, evT, evL, evA, evA1, evI, evP, evC, asgG, asgL, stoD, bind_eq, it_tup, it_lst, Nat.reduceLT, sz_0, sz_1, sz_2, sz_3, sz_4, sz_5, sz_6, sz_7, sz_8, wipe_nil, wipe_cons, Nat.zero_lt_succ, Nat.not_lt_zero, decide_true, decide_false, lift_some, thenF_nx, thenF_ret, back_none', fin_ret, fin_nx, startN,
  getVar_eq, gv_own, gv_int, gv_bl, gv_str, gv_non, gv_tup, gv_lst, gv_scr, gv_ins, keptAt_eq, kp_some, mi_own, mi_bor, mi_int, mi_bl, mi_str, mi_non, mi_tup, mi_lst, mi_scr, mi_ins, mvAt_eq, mv_some, mv_own, mv_bor, mv_int, mv_bl, mv_str, mv_non, mv_tup, mv_lst, mv_scr, mv_ins,
  fz_own, fz_l, fz_i, fzI, fz_bl, fz_str, fz_non, fzT, fz_lst, fz_scr, fz_ins, fz_set, fz_ty, fz_gl, b_int, i_add, u_neg, u_inv, c_lt, c_le, c_gt, c_ge, c_eqI, c_neI, c_eqB, c_isN, c_notN, t_bl, t_int, t_non, t_tup, t_lst, x_tup, x_lst, x_scr, s_lst, s_scr,
  l_len1, l_len2, l_len3, l_int, l_abs, l_tup, l_tup2, l_list, l_list2, l_max, l_min, l_isi, nil_out, out_int, out_bl, out_tup, out_lst, out_scr, out_ins, out_non, out_bor, nO, tB, tI, back_eq, put_none,
  List.map_cons, List.map_nil, List.length_cons, List.length_nil, List.replicate, List.getElem?_cons_zero, List.getElem?_cons_succ, List.append_nil, List.nil_append, List.cons_append, List.set_cons_zero, List.set_cons_succ, Option.map_some, Option.isSome_some, Option.isSome_none, if_true, if_false, ite_true, ite_false, Bool.false_eq_true, reduceCtorEq, Nat.reduceAdd, Nat.reduceSub, po_bor, rng_1 (b := (many : Int)) (by omega), Int.toNat_natCast, rng_nats] <;> try dsimp only [Dx.D.fz, Dx.MV.fz])
  rw [if_pos (show (natsD (List.range many)).length ≤ sizeLine by unfold natsD sizeLine; simp; omega)]
  generalize hX : lcD _ (natsD (List.range many)) _ = X
  have key : ∃ (row : List Nat) (ρ' : En), X = .ok (natsD row) ρ' ∧ row.Sublist (List.range many) ∧ ∃ q, ρ' = [some (.bor (purse q)), some (.int (many : Int)), some (.int (2 + d)), none] ∧ Pu q := by
    rw [← hX]
    refine lcD_sub (fun ρ => ∃ q, ρ = [some (.bor (purse q)), some (.int (many : Int)), some (.int (2 + d)), none] ∧ Pu q) ⟨q, rfl, hq⟩ (fun k ρ hk ⟨q1, hρ, hq1⟩ => ?_)
    subst hρ
    obtain ⟨d2, q2, e2, _, hq2⟩ := s_draw (n := j) (many := 2 + d) hj hq1 (by omega) (by omega)
    refine ⟨[some (.bor (purse q2)), some (.int (many : Int)), some (.int (2 + d)), none], ?_, q2, rfl, hq2⟩
    (simp -dsimp only [evB, evS, evE, evT, evL, evA, evA1, evI, evP, evC, asgG, asgL, stoD, bind_eq, it_tup, it_lst, Nat.reduceLT, sz_0, sz_1, sz_2, sz_3, sz_4, sz_5, sz_6, sz_7, sz_8, wipe_nil, wipe_cons, Nat.zero_lt_succ, Nat.not_lt_zero, decide_true, decide_false, lift_some, thenF_nx, thenF_ret, back_none', fin_ret, fin_nx, startN,
  getVar_eq, gv_own, gv_int, gv_bl, gv_str, gv_non, gv_tup, gv_lst, gv_scr, gv_ins, keptAt_eq, kp_some, mi_own, mi_bor, mi_int, mi_bl, mi_str, mi_non, mi_tup, mi_lst, mi_scr, mi_ins, mvAt_eq, mv_some, mv_own, mv_bor, mv_int, mv_bl, mv_str, mv_non, mv_tup, mv_lst, mv_scr, mv_ins,
  fz_own, fz_l, fz_i, fzI, fz_bl, fz_str, fz_non, fzT, fz_lst, fz_scr, fz_ins, fz_set, fz_ty, fz_gl, b_int, i_add, u_neg, u_inv, c_lt, c_le, c_gt, c_ge, c_eqI, c_neI, c_eqB, c_isN, c_notN, t_bl, t_int, t_non, t_tup, t_lst, x_tup, x_lst, x_scr, s_lst, s_scr,
  l_len1, l_len2, l_len3, l_int, l_abs, l_tup, l_tup2, l_list, l_list2, l_max, l_min, l_isi, nil_out, out_int, out_bl, out_tup, out_lst, out_scr, out_ins, out_non, out_bor, nO, tB, tI, back_eq, put_none,
  List.map_cons, List.map_nil, List.length_cons, List.length_nil, List.replicate, List.getElem?_cons_zero, List.getElem?_cons_succ, List.append_nil, List.nil_append, List.cons_append, List.set_cons_zero, List.set_cons_succ, Option.map_some, Option.isSome_some, Option.isSome_none, if_true, if_false, ite_true, ite_false, Bool.false_eq_true, reduceCtorEq, Nat.reduceAdd, Nat.reduceSub] <;> try dsimp only [Dx.D.fz, Dx.MV.fz])
    rw [calO_eq (bag_len mv0_bor (bag_d bag_nil)) e2]
    (simp -dsimp only [evB, evS, evE, evT, evL, evA, evA1, evI, evP, evC, asgG, asgL, stoD, bind_eq, it_tup, it_lst, Nat.reduceLT, sz_0, sz_1, sz_2, sz_3, sz_4, sz_5, sz_6, sz_7, sz_8, wipe_nil, wipe_cons, Nat.zero_lt_succ, Nat.not_lt_zero, decide_true, decide_false, lift_some, thenF_nx, thenF_ret, back_none', fin_ret, fin_nx, startN,
  getVar_eq, gv_own, gv_int, gv_bl, gv_str, gv_non, gv_tup, gv_lst, gv_scr, gv_ins, keptAt_eq, kp_some, mi_own, mi_bor, mi_int, mi_bl, mi_str, mi_non, mi_tup, mi_lst, mi_scr, mi_ins, mvAt_eq, mv_some, mv_own, mv_bor, mv_int, mv_bl, mv_str, mv_non, mv_tup, mv_lst, mv_scr, mv_ins,
  fz_own, fz_l, fz_i, fzI, fz_bl, fz_str, fz_non, fzT, fz_lst, fz_scr, fz_ins, fz_set, fz_ty, fz_gl, b_int, i_add, u_neg, u_inv, c_lt, c_le, c_gt, c_ge, c_eqI, c_neI, c_eqB, c_isN, c_notN, t_bl, t_int, t_non, t_tup, t_lst, x_tup, x_lst, x_scr, s_lst, s_scr,
  l_len1, l_len2, l_len3, l_int, l_abs, l_tup, l_tup2, l_list, l_list2, l_max, l_min, l_isi, nil_out, out_int, out_bl, out_tup, out_lst, out_scr, out_ins, out_non, out_bor, nO, tB, tI, back_eq, put_none,
  List.map_cons, List.map_nil, List.length_cons, List.length_nil, List.replicate, List.getElem?_cons_zero, List.getElem?_cons_succ, List.append_nil, List.nil_append, List.cons_append, List.set_cons_zero, List.set_cons_succ, Option.map_some, Option.isSome_some, Option.isSome_none, if_true, if_false, ite_true, ite_false, Bool.false_eq_true, reduceCtorEq, Nat.reduceAdd, Nat.reduceSub, po_bor] <;> try dsimp only [Dx.D.fz, Dx.MV.fz])
    by_cases h : d2 = 0
    · rw [decide_eq_true h]
      (simp -dsimp only [evB, evS, evE, evT, evL, evA, evA1, evI, evP, evC, asgG, asgL, stoD, bind_eq, it_tup, it_lst, Nat.reduceLT, sz_0, sz_1, sz_2, sz_3, sz_4, sz_5, sz_6, sz_7, sz_8, wipe_nil, wipe_cons, Nat.zero_lt_succ, Nat.not_lt_zero, decide_true, decide_false, lift_some, thenF_nx, thenF_ret, back_none', fin_ret, fin_nx, startN,
  getVar_eq, gv_own, gv_int, gv_bl, gv_str, gv_non, gv_tup, gv_lst, gv_scr, gv_ins, keptAt_eq, kp_some, mi_own, mi_bor, mi_int, mi_bl, mi_str, mi_non, mi_tup, mi_lst, mi_scr, mi_ins, mvAt_eq, mv_some, mv_own, mv_bor, mv_int, mv_bl, mv_str, mv_non, mv_tup, mv_lst, mv_scr, mv_ins,
  fz_own, fz_l, fz_i, fzI, fz_bl, fz_str, fz_non, fzT, fz_lst, fz_scr, fz_ins, fz_set, fz_ty, fz_gl, b_int, i_add, u_neg, u_inv, c_lt, c_le, c_gt, c_ge, c_eqI, c_neI, c_eqB, c_isN, c_notN, t_bl, t_int, t_non, t_tup, t_lst, x_tup, x_lst, x_scr, s_lst, s_scr,
  l_len1, l_len2, l_len3, l_int, l_abs, l_tup, l_tup2, l_list, l_list2, l_max, l_min, l_isi, nil_out, out_int, out_bl, out_tup, out_lst, out_scr, out_ins, out_non, out_bor, nO, tB, tI, back_eq, put_none,
  List.map_cons, List.map_nil, List.length_cons, List.length_nil, List.replicate, List.getElem?_cons_zero, List.getElem?_cons_succ, List.append_nil, List.nil_append, List.cons_append, List.set_cons_zero, List.set_cons_succ, Option.map_some, Option.isSome_some, Option.isSome_none, if_true, if_false, ite_true, ite_false, Bool.false_eq_true, reduceCtorEq, Nat.reduceAdd, Nat.reduceSub] <;> try dsimp only [Dx.D.fz, Dx.MV.fz])
      exact .inl trivial
    · rw [decide_eq_false h]
      (simp -dsimp only [evB, evS, evE, evT, evL, evA, evA1, evI, evP, evC, asgG, asgL, stoD, bind_eq, it_tup, it_lst, Nat.reduceLT, sz_0, sz_1, sz_2, sz_3, sz_4, sz_5, sz_6, sz_7, sz_8, wipe_nil, wipe_cons, Nat.zero_lt_succ, Nat.not_lt_zero, decide_true, decide_false, lift_some, thenF_nx, thenF_ret, back_none', fin_ret, fin_nx, startN,
  getVar_eq, gv_own, gv_int, gv_bl, gv_str, gv_non, gv_tup, gv_lst, gv_scr, gv_ins, keptAt_eq, kp_some, mi_own, mi_bor, mi_int, mi_bl, mi_str, mi_non, mi_tup, mi_lst, mi_scr, mi_ins, mvAt_eq, mv_some, mv_own, mv_bor, mv_int, mv_bl, mv_str, mv_non, mv_tup, mv_lst, mv_scr, mv_ins,
  fz_own, fz_l, fz_i, fzI, fz_bl, fz_str, fz_non, fzT, fz_lst, fz_scr, fz_ins, fz_set, fz_ty, fz_gl, b_int, i_add, u_neg, u_inv, c_lt, c_le, c_gt, c_ge, c_eqI, c_neI, c_eqB, c_isN, c_notN, t_bl, t_int, t_non, t_tup, t_lst, x_tup, x_lst, x_scr, s_lst, s_scr,
  l_len1, l_len2, l_len3, l_int, l_abs, l_tup, l_tup2, l_list, l_list2, l_max, l_min, l_isi, nil_out, out_int, out_bl, out_tup, out_lst, out_scr, out_ins, out_non, out_bor, nO, tB, tI, back_eq, put_none,
  List.map_cons, List.map_nil, List.length_cons, List.length_nil, List.replicate, List.getElem?_cons_zero, List.getElem?_cons_succ, List.append_nil, List.nil_append, List.cons_append, List.set_cons_zero, List.set_cons_succ, Option.map_some, Option.isSome_some, Option.isSome_none, if_true, if_false, ite_true, ite_false, Bool.false_eq_true, reduceCtorEq, Nat.reduceAdd, Nat.reduceSub] <;> try dsimp only [Dx.D.fz, Dx.MV.fz])
      exact .inr trivial
  obtain ⟨row, ρ', rfl, s, q', rfl, hq'⟩ := key
  refine ⟨row, q', ?_, ⟨h1, h2, List.Pairwise.sublist s List.pairwise_lt_range, fun k hk => List.mem_range.mp (s.subset hk)⟩, hq'⟩
  (simp -dsimp only [evB, evS, evE, evT, evL, evA, evA1, evI, evP, evC, asgG, asgL, stoD, bind_eq, it_tup, it_lst, Nat.reduceLT, sz_0, sz_1, sz_2, sz_3, sz_4, sz_5, sz_6, sz_7, sz_8, wipe_nil, wipe_cons, Nat.zero_lt_succ, Nat.not_lt_zero, decide_true, decide_false, lift_some, thenF_nx, thenF_ret, back_none', fin_ret, fin_nx, startN,
  getVar_eq, gv_own, gv_int, gv_bl, gv_str, gv_non, gv_tup, gv_lst, gv_scr, gv_ins, keptAt_eq, kp_some, mi_own, mi_bor, mi_int, mi_bl, mi_str, mi_non, mi_tup, mi_lst, mi_scr, mi_ins, mvAt_eq, mv_some, mv_own, mv_bor, mv_int, mv_bl, mv_str, mv_non, mv_tup, mv_lst, mv_scr, mv_ins,
  fz_own, fz_l, fz_i, fzI, fz_bl, fz_str, fz_non, fzT, fz_lst, fz_scr, fz_ins, fz_set, fz_ty, fz_gl, b_int, i_add, u_neg, u_inv, c_lt, c_le, c_gt, c_ge, c_eqI, c_neI, c_eqB, c_isN, c_notN, t_bl, t_int, t_non, t_tup, t_lst, x_tup, x_lst, x_scr, s_lst, s_scr,
  l_len1, l_len2, l_len3, l_int, l_abs, l_tup, l_tup2, l_list, l_list2, l_max, l_min, l_isi, nil_out, out_int, out_bl, out_tup, out_lst, out_scr, out_ins, out_non, out_bor, nO, tB, tI, back_eq, put_none,
  List.map_cons, List.map_nil, List.length_cons, List.length_nil, List.replicate, List.getElem?_cons_zero, List.getElem?_cons_succ, List.append_nil, List.nil_append, List.cons_append, List.set_cons_zero, List.set_cons_succ, Option.map_some, Option.isSome_some, Option.isSome_none, if_true, if_false, ite_true, ite_false, Bool.false_eq_true, reduceCtorEq, Nat.reduceAdd, Nat.reduceSub] <;> try dsimp only [Dx.D.fz, Dx.MV.fz])

section
variable {C : Cal} {ρ : En} {ds : List D} {ns : List Int}
theorem l_set (h : ds.length ≤ 4000) (h2 : intsOf ds = some ns) : bltO C .set [.lst ds] ρ = .ok (.set ns) ρ := by
  show lift (if _ then _ else _) ρ = _
  rw [if_pos h, h2]; rfl
theorem l_setT (h : ds.length ≤ 4000) (h2 : intsOf ds = some ns) : bltO C .set [.tup ds] ρ = .ok (.set ns) ρ := by
  show lift (if _ then _ else _) ρ = _
  rw [if_pos h, h2]; rfl
theorem l_sortS (h : (sortU ns).length < 64) : bltO C .sorted [.set ns] ρ = .ok (.own (.lst ((sortU ns).map D.int))) ρ := by
  show lift (if _ then _ else _) ρ = _
  rw [if_pos h]; rfl
theorem l_sortL (h2 : intsOf ds = some ns) : bltO C .sorted [.lst ds] ρ = .ok (.own (.lst ((sortI ns).map D.int))) ρ := by
  show lift ((intsOf ds).map _) ρ = _
  rw [h2]; rfl
end
theorem intsOf_ints : ∀ ns : List Int, intsOf (ns.map D.int) = some ns
  | [] => rfl
  | n :: ns => by
    show (intsOf (ns.map D.int)).map _ = _
    rw [intsOf_ints ns]; rfl
theorem natsD_ints (hs : List Nat) : natsD hs = (hs.map fun h : Nat => (h : Int)).map D.int := by
  unfold natsD
  rw [List.map_map]; rfl
theorem intsOf_nats (hs : List Nat) : intsOf (natsD hs) = some (hs.map fun h : Nat => (h : Int)) := by rw [natsD_ints, intsOf_ints]
/-- the ascending members of what is told by their hours -/
theorem sortU_row {ns : List Int} {row : List Nat} (h1 : row.Pairwise (· < ·)) (h : ∀ k : Int, k ∈ ns ↔ ∃ z ∈ row, (z : Int) = k) : (sortU ns).map D.int = natsD row := by
  rw [natsD_ints, int_row (asc_sortU ns) h1 fun k => by rw [Ev.mem_sortU]; exact h k]
theorem s_lsums {n c : Nat} {ra rb : List Nat} (hn : 1 ≤ n) (va : Valid c ra) (vb : Valid c rb) (hc : c ≤ 60) : RT n (.f "_law_sums") [.int (c : Int), .tup (natsD ra), .tup (natsD rb)] = .ok (.tup (natsD (bitsL (sumsN c (maskN ra) (maskN rb))))) [] := by
  obtain ⟨j, rfl, hj⟩ := pos_of hn
  have la := asc_len va.asc va.lt
  have lb := asc_len vb.asc vb.lt
  rw [RT, run_of t_lsums rfl]
  (simp -dsimp only [evB, evS, evE, evT, evL, evA, evA1, evI, evP, evC, asgG, asgL, stoD, bind_eq, it_tup, it_lst, Nat.reduceLT, sz_0, sz_1, sz_2, sz_3, sz_4, sz_5, sz_6, sz_7, sz_8, wipe_nil, wipe_cons, Nat.zero_lt_succ, Nat.not_lt_zero, decide_true, decide_false, lift_some, thenF_nx, thenF_ret, back_none', fin_ret, fin_nx, startN,
  getVar_eq, gv_own, gv_int, gv_bl, gv_str, gv_non, gv_tup, gv_lst, gv_scr, gv_ins, keptAt_eq, kp_some, mi_own, mi_bor, mi_int, mi_bl, mi_str, mi_non, mi_tup, mi_lst, mi_scr, mi_ins, mvAt_eq, mv_some, mv_own, mv_bor, mv_int, mv_bl, mv_str, mv_non, mv_tup, mv_lst, mv_scr, mv_ins,
  fz_own, fz_l, fz_i, fzI, fz_bl, fz_str, fz_non, fzT, fz_lst, fz_scr, fz_ins, fz_set, fz_ty, fz_gl, b_int, i_add, u_neg, u_inv, c_lt, c_le, c_gt, c_ge, c_eqI, c_neI, c_eqB, c_isN, c_notN, t_bl, t_int, t_non, t_tup, t_lst, x_tup, x_lst, x_scr, s_lst, s_scr,
  l_len1, l_len2, l_len3, l_int, l_abs, l_tup, l_tup2, l_list, l_list2, l_max, l_min, l_isi, nil_out, out_int, out_bl, out_tup, out_lst, out_scr, out_ins, out_non, out_bor, nO, tB, tI, back_eq, put_none,
  List.map_cons, List.map_nil, List.length_cons, List.length_nil, List.replicate, List.getElem?_cons_zero, List.getElem?_cons_succ, List.append_nil, List.nil_append, List.cons_append, List.set_cons_zero, List.set_cons_succ, Option.map_some, Option.isSome_some, Option.isSome_none, if_true, if_false, ite_true, ite_false, Bool.false_eq_true, reduceCtorEq, Nat.reduceAdd, Nat.reduceSub] <;> try dsimp only [Dx.D.fz, Dx.MV.fz])
  let F : Nat → List Nat := fun k => (ra.take k).flatMap fun x => rb.map fun y => (x + y) % c
  have lF : ∀ k, (F k).length ≤ k * c := fun k => by
    show ((ra.take k).flatMap fun x => rb.map fun y => (x + y) % c).length ≤ _
    rw [List.length_flatMap]
    simp only [List.length_map]
    rw [List.map_const', List.sum_replicate_nat]
    rw [List.length_take]
    exact Nat.mul_le_mul (Nat.min_le_left _ _) lb
  refine fin_run (fun k ρ => ∃ o4, ρ = [some (.int (c : Int)), some (.tup (natsD ra)), some (.tup (natsD rb)), some (.own (.lst (natsD (F k)))), o4, none]) ⟨none, rfl⟩ (fun k x ρ hk ⟨o4, hρ⟩ => ?_) (fun ρ' ⟨o4, hρ⟩ => ?_)
  · subst hρ
    obtain ⟨z, h2, rfl⟩ := natsD_get hk
    have hkl : k < ra.length := (List.getElem?_eq_some_iff.mp h2).1
    refine ⟨[some (.int (c : Int)), some (.tup (natsD ra)), some (.tup (natsD rb)), some (.own (.lst (natsD (F (k + 1))))), some (.int (z : Int)), none], .inl ?_, ⟨_, rfl⟩⟩
    (simp -dsimp only [evB, evS, evE, evT, evL, evA, evA1, evI, evP, evC, asgG, asgL, stoD, bind_eq, it_tup, it_lst, Nat.reduceLT, sz_0, sz_1, sz_2, sz_3, sz_4, sz_5, sz_6, sz_7, sz_8, wipe_nil, wipe_cons, Nat.zero_lt_succ, Nat.not_lt_zero, decide_true, decide_false, lift_some, thenF_nx, thenF_ret, back_none', fin_ret, fin_nx, startN,
  getVar_eq, gv_own, gv_int, gv_bl, gv_str, gv_non, gv_tup, gv_lst, gv_scr, gv_ins, keptAt_eq, kp_some, mi_own, mi_bor, mi_int, mi_bl, mi_str, mi_non, mi_tup, mi_lst, mi_scr, mi_ins, mvAt_eq, mv_some, mv_own, mv_bor, mv_int, mv_bl, mv_str, mv_non, mv_tup, mv_lst, mv_scr, mv_ins,
  fz_own, fz_l, fz_i, fzI, fz_bl, fz_str, fz_non, fzT, fz_lst, fz_scr, fz_ins, fz_set, fz_ty, fz_gl, b_int, i_add, u_neg, u_inv, c_lt, c_le, c_gt, c_ge, c_eqI, c_neI, c_eqB, c_isN, c_notN, t_bl, t_int, t_non, t_tup, t_lst, x_tup, x_lst, x_scr, s_lst, s_scr,
  l_len1, l_len2, l_len3, l_int, l_abs, l_tup, l_tup2, l_list, l_list2, l_max, l_min, l_isi, nil_out, out_int, out_bl, out_tup, out_lst, out_scr, out_ins, out_non, out_bor, nO, tB, tI, back_eq, put_none,
  List.map_cons, List.map_nil, List.length_cons, List.length_nil, List.replicate, List.getElem?_cons_zero, List.getElem?_cons_succ, List.append_nil, List.nil_append, List.cons_append, List.set_cons_zero, List.set_cons_succ, Option.map_some, Option.isSome_some, Option.isSome_none, if_true, if_false, ite_true, ite_false, Bool.false_eq_true, reduceCtorEq, Nat.reduceAdd, Nat.reduceSub] <;> try dsimp only [Dx.D.fz, Dx.MV.fz])
    rw [if_pos (show (natsD rb).length ≤ sizeLine by unfold natsD sizeLine; simp; omega), lcD_nats (fun _ => true) (fun y => .int (((z + y) % c : Nat) : Int)) (fun y hy => ?_)]
    · (simp -dsimp only [evB, evS, evE, evT, evL, evA, evA1, evI, evP, evC, asgG, asgL, stoD, bind_eq, it_tup, it_lst, Nat.reduceLT, sz_0, sz_1, sz_2, sz_3, sz_4, sz_5, sz_6, sz_7, sz_8, wipe_nil, wipe_cons, Nat.zero_lt_succ, Nat.not_lt_zero, decide_true, decide_false, lift_some, thenF_nx, thenF_ret, back_none', fin_ret, fin_nx, startN,
  getVar_eq, gv_own, gv_int, gv_bl, gv_str, gv_non, gv_tup, gv_lst, gv_scr, gv_ins, keptAt_eq, kp_some, mi_own, mi_bor, mi_int, mi_bl, mi_str, mi_non, mi_tup, mi_lst, mi_scr, mi_ins, mvAt_eq, mv_some, mv_own, mv_bor, mv_int, mv_bl, mv_str, mv_non, mv_tup, mv_lst, mv_scr, mv_ins,
  fz_own, fz_l, fz_i, fzI, fz_bl, fz_str, fz_non, fzT, fz_lst, fz_scr, fz_ins, fz_set, fz_ty, fz_gl, b_int, i_add, u_neg, u_inv, c_lt, c_le, c_gt, c_ge, c_eqI, c_neI, c_eqB, c_isN, c_notN, t_bl, t_int, t_non, t_tup, t_lst, x_tup, x_lst, x_scr, s_lst, s_scr,
  l_len1, l_len2, l_len3, l_int, l_abs, l_tup, l_tup2, l_list, l_list2, l_max, l_min, l_isi, nil_out, out_int, out_bl, out_tup, out_lst, out_scr, out_ins, out_non, out_bor, nO, tB, tI, back_eq, put_none,
  List.map_cons, List.map_nil, List.length_cons, List.length_nil, List.replicate, List.getElem?_cons_zero, List.getElem?_cons_succ, List.append_nil, List.nil_append, List.cons_append, List.set_cons_zero, List.set_cons_succ, Option.map_some, Option.isSome_some, Option.isSome_none, if_true, if_false, ite_true, ite_false, Bool.false_eq_true, reduceCtorEq, Nat.reduceAdd, Nat.reduceSub] <;> try dsimp only [Dx.D.fz, Dx.MV.fz])
      have e : natsD (F k) ++ (rb.filter fun _ => true).map (fun y : Nat => D.int (((z + y) % c : Nat) : Int)) = natsD (F (k + 1)) := by
        rw [List.filter_eq_self.mpr (fun _ _ => rfl)]
        show _ = natsD ((ra.take (k + 1)).flatMap fun x => rb.map fun y => (x + y) % c)
        rw [List.take_add_one, h2, List.flatMap_append]
        unfold natsD
        rw [List.map_append]
        simp [F]
      rw [b_lst (by
        have h3 := congrArg List.length e
        rw [List.length_append] at h3
        rw [h3]
        unfold natsD
        rw [List.length_map]
        have h4 := lF (k + 1)
        have h5 : (k + 1) * c ≤ 60 * 60 := Nat.mul_le_mul (by omega) hc
        unfold sizeLine
        omega), e]
      (simp -dsimp only [evB, evS, evE, evT, evL, evA, evA1, evI, evP, evC, asgG, asgL, stoD, bind_eq, it_tup, it_lst, Nat.reduceLT, sz_0, sz_1, sz_2, sz_3, sz_4, sz_5, sz_6, sz_7, sz_8, wipe_nil, wipe_cons, Nat.zero_lt_succ, Nat.not_lt_zero, decide_true, decide_false, lift_some, thenF_nx, thenF_ret, back_none', fin_ret, fin_nx, startN,
  getVar_eq, gv_own, gv_int, gv_bl, gv_str, gv_non, gv_tup, gv_lst, gv_scr, gv_ins, keptAt_eq, kp_some, mi_own, mi_bor, mi_int, mi_bl, mi_str, mi_non, mi_tup, mi_lst, mi_scr, mi_ins, mvAt_eq, mv_some, mv_own, mv_bor, mv_int, mv_bl, mv_str, mv_non, mv_tup, mv_lst, mv_scr, mv_ins,
  fz_own, fz_l, fz_i, fzI, fz_bl, fz_str, fz_non, fzT, fz_lst, fz_scr, fz_ins, fz_set, fz_ty, fz_gl, b_int, i_add, u_neg, u_inv, c_lt, c_le, c_gt, c_ge, c_eqI, c_neI, c_eqB, c_isN, c_notN, t_bl, t_int, t_non, t_tup, t_lst, x_tup, x_lst, x_scr, s_lst, s_scr,
  l_len1, l_len2, l_len3, l_int, l_abs, l_tup, l_tup2, l_list, l_list2, l_max, l_min, l_isi, nil_out, out_int, out_bl, out_tup, out_lst, out_scr, out_ins, out_non, out_bor, nO, tB, tI, back_eq, put_none,
  List.map_cons, List.map_nil, List.length_cons, List.length_nil, List.replicate, List.getElem?_cons_zero, List.getElem?_cons_succ, List.append_nil, List.nil_append, List.cons_append, List.set_cons_zero, List.set_cons_succ, Option.map_some, Option.isSome_some, Option.isSome_none, if_true, if_false, ite_true, ite_false, Bool.false_eq_true, reduceCtorEq, Nat.reduceAdd, Nat.reduceSub] <;> try dsimp only [Dx.D.fz, Dx.MV.fz])
    · (simp -dsimp only [evB, evS, evE, evT, evL, evA, evA1, evI, evP, evC, asgG, asgL, stoD, bind_eq, it_tup, it_lst, Nat.reduceLT, sz_0, sz_1, sz_2, sz_3, sz_4, sz_5, sz_6, sz_7, sz_8, wipe_nil, wipe_cons, Nat.zero_lt_succ, Nat.not_lt_zero, decide_true, decide_false, lift_some, thenF_nx, thenF_ret, back_none', fin_ret, fin_nx, startN,
  getVar_eq, gv_own, gv_int, gv_bl, gv_str, gv_non, gv_tup, gv_lst, gv_scr, gv_ins, keptAt_eq, kp_some, mi_own, mi_bor, mi_int, mi_bl, mi_str, mi_non, mi_tup, mi_lst, mi_scr, mi_ins, mvAt_eq, mv_some, mv_own, mv_bor, mv_int, mv_bl, mv_str, mv_non, mv_tup, mv_lst, mv_scr, mv_ins,
  fz_own, fz_l, fz_i, fzI, fz_bl, fz_str, fz_non, fzT, fz_lst, fz_scr, fz_ins, fz_set, fz_ty, fz_gl, b_int, i_add, u_neg, u_inv, c_lt, c_le, c_gt, c_ge, c_eqI, c_neI, c_eqB, c_isN, c_notN, t_bl, t_int, t_non, t_tup, t_lst, x_tup, x_lst, x_scr, s_lst, s_scr,
  l_len1, l_len2, l_len3, l_int, l_abs, l_tup, l_tup2, l_list, l_list2, l_max, l_min, l_isi, nil_out, out_int, out_bl, out_tup, out_lst, out_scr, out_ins, out_non, out_bor, nO, tB, tI, back_eq, put_none,
  List.map_cons, List.map_nil, List.length_cons, List.length_nil, List.replicate, List.getElem?_cons_zero, List.getElem?_cons_succ, List.append_nil, List.nil_append, List.cons_append, List.set_cons_zero, List.set_cons_succ, Option.map_some, Option.isSome_some, Option.isSome_none, if_true, if_false, ite_true, ite_false, Bool.false_eq_true, reduceCtorEq, Nat.reduceAdd, Nat.reduceSub, i_mod (a := (z : Int) + (y : Int)) (b := (c : Int)) (by have := va.pos; omega)] <;> try dsimp only [Dx.D.fz, Dx.MV.fz])
      rw [Int.natCast_emod, Int.natCast_add]
  · subst hρ
    have hl : (natsD ra).length = ra.length := by unfold natsD; simp
    (simp -dsimp only [evB, evS, evE, evT, evL, evA, evA1, evI, evP, evC, asgG, asgL, stoD, bind_eq, it_tup, it_lst, Nat.reduceLT, sz_0, sz_1, sz_2, sz_3, sz_4, sz_5, sz_6, sz_7, sz_8, wipe_nil, wipe_cons, Nat.zero_lt_succ, Nat.not_lt_zero, decide_true, decide_false, lift_some, thenF_nx, thenF_ret, back_none', fin_ret, fin_nx, startN,
  getVar_eq, gv_own, gv_int, gv_bl, gv_str, gv_non, gv_tup, gv_lst, gv_scr, gv_ins, keptAt_eq, kp_some, mi_own, mi_bor, mi_int, mi_bl, mi_str, mi_non, mi_tup, mi_lst, mi_scr, mi_ins, mvAt_eq, mv_some, mv_own, mv_bor, mv_int, mv_bl, mv_str, mv_non, mv_tup, mv_lst, mv_scr, mv_ins,
  fz_own, fz_l, fz_i, fzI, fz_bl, fz_str, fz_non, fzT, fz_lst, fz_scr, fz_ins, fz_set, fz_ty, fz_gl, b_int, i_add, u_neg, u_inv, c_lt, c_le, c_gt, c_ge, c_eqI, c_neI, c_eqB, c_isN, c_notN, t_bl, t_int, t_non, t_tup, t_lst, x_tup, x_lst, x_scr, s_lst, s_scr,
  l_len1, l_len2, l_len3, l_int, l_abs, l_tup, l_tup2, l_list, l_list2, l_max, l_min, l_isi, nil_out, out_int, out_bl, out_tup, out_lst, out_scr, out_ins, out_non, out_bor, nO, tB, tI, back_eq, put_none,
  List.map_cons, List.map_nil, List.length_cons, List.length_nil, List.replicate, List.getElem?_cons_zero, List.getElem?_cons_succ, List.append_nil, List.nil_append, List.cons_append, List.set_cons_zero, List.set_cons_succ, Option.map_some, Option.isSome_some, Option.isSome_none, if_true, if_false, ite_true, ite_false, Bool.false_eq_true, reduceCtorEq, Nat.reduceAdd, Nat.reduceSub] <;> try dsimp only [Dx.D.fz, Dx.MV.fz])
    rw [hl]
    have e : F ra.length = ra.flatMap fun x => rb.map fun y => (x + y) % c := by
      show ((ra.take ra.length).flatMap _) = _
      rw [List.take_length]
    have l5 := lF ra.length
    have h5 : ra.length * c ≤ 60 * 60 := Nat.mul_le_mul (by omega) hc
    rw [l_set (by unfold natsD; rw [List.length_map]; omega) (intsOf_nats _)]
    (simp -dsimp only [evB, evS, evE, evT, evL, evA, evA1, evI, evP, evC, asgG, asgL, stoD, bind_eq, it_tup, it_lst, Nat.reduceLT, sz_0, sz_1, sz_2, sz_3, sz_4, sz_5, sz_6, sz_7, sz_8, wipe_nil, wipe_cons, Nat.zero_lt_succ, Nat.not_lt_zero, decide_true, decide_false, lift_some, thenF_nx, thenF_ret, back_none', fin_ret, fin_nx, startN,
  getVar_eq, gv_own, gv_int, gv_bl, gv_str, gv_non, gv_tup, gv_lst, gv_scr, gv_ins, keptAt_eq, kp_some, mi_own, mi_bor, mi_int, mi_bl, mi_str, mi_non, mi_tup, mi_lst, mi_scr, mi_ins, mvAt_eq, mv_some, mv_own, mv_bor, mv_int, mv_bl, mv_str, mv_non, mv_tup, mv_lst, mv_scr, mv_ins,
  fz_own, fz_l, fz_i, fzI, fz_bl, fz_str, fz_non, fzT, fz_lst, fz_scr, fz_ins, fz_set, fz_ty, fz_gl, b_int, i_add, u_neg, u_inv, c_lt, c_le, c_gt, c_ge, c_eqI, c_neI, c_eqB, c_isN, c_notN, t_bl, t_int, t_non, t_tup, t_lst, x_tup, x_lst, x_scr, s_lst, s_scr,
  l_len1, l_len2, l_len3, l_int, l_abs, l_tup, l_tup2, l_list, l_list2, l_max, l_min, l_isi, nil_out, out_int, out_bl, out_tup, out_lst, out_scr, out_ins, out_non, out_bor, nO, tB, tI, back_eq, put_none,
  List.map_cons, List.map_nil, List.length_cons, List.length_nil, List.replicate, List.getElem?_cons_zero, List.getElem?_cons_succ, List.append_nil, List.nil_append, List.cons_append, List.set_cons_zero, List.set_cons_succ, Option.map_some, Option.isSome_some, Option.isSome_none, if_true, if_false, ite_true, ite_false, Bool.false_eq_true, reduceCtorEq, Nat.reduceAdd, Nat.reduceSub] <;> try dsimp only [Dx.D.fz, Dx.MV.fz])
    have hrow := sortU_row (ns := (F ra.length).map fun h : Nat => (h : Int)) (asc_bitsL (sumsN c (maskN ra) (maskN rb))) (fun k => by
      rw [e]
      simp only [List.mem_map, List.mem_flatMap, mem_sums va.lt vb.lt]
      constructor
      · rintro ⟨a, ⟨x, hx, y, hy, rfl⟩, rfl⟩
        exact ⟨_, ⟨x, hx, y, hy, rfl, Nat.mod_lt _ va.pos⟩, rfl⟩
      · rintro ⟨a, ⟨x, hx, y, hy, rfl, _⟩, rfl⟩
        exact ⟨_, ⟨x, hx, y, hy, rfl⟩, rfl⟩)
    rw [l_sortS (by
      have h6 := congrArg List.length hrow
      unfold natsD at h6
      rw [List.length_map, List.length_map] at h6
      rw [h6]
      have h7 := asc_len (asc_bitsL (sumsN c (maskN ra) (maskN rb))) (fun k hk => bit_lt (sumsN_lt _ _ _) hk)
      omega), hrow]
    (simp -dsimp only [evB, evS, evE, evT, evL, evA, evA1, evI, evP, evC, asgG, asgL, stoD, bind_eq, it_tup, it_lst, Nat.reduceLT, sz_0, sz_1, sz_2, sz_3, sz_4, sz_5, sz_6, sz_7, sz_8, wipe_nil, wipe_cons, Nat.zero_lt_succ, Nat.not_lt_zero, decide_true, decide_false, lift_some, thenF_nx, thenF_ret, back_none', fin_ret, fin_nx, startN,
  getVar_eq, gv_own, gv_int, gv_bl, gv_str, gv_non, gv_tup, gv_lst, gv_scr, gv_ins, keptAt_eq, kp_some, mi_own, mi_bor, mi_int, mi_bl, mi_str, mi_non, mi_tup, mi_lst, mi_scr, mi_ins, mvAt_eq, mv_some, mv_own, mv_bor, mv_int, mv_bl, mv_str, mv_non, mv_tup, mv_lst, mv_scr, mv_ins,
  fz_own, fz_l, fz_i, fzI, fz_bl, fz_str, fz_non, fzT, fz_lst, fz_scr, fz_ins, fz_set, fz_ty, fz_gl, b_int, i_add, u_neg, u_inv, c_lt, c_le, c_gt, c_ge, c_eqI, c_neI, c_eqB, c_isN, c_notN, t_bl, t_int, t_non, t_tup, t_lst, x_tup, x_lst, x_scr, s_lst, s_scr,
  l_len1, l_len2, l_len3, l_int, l_abs, l_tup, l_tup2, l_list, l_list2, l_max, l_min, l_isi, nil_out, out_int, out_bl, out_tup, out_lst, out_scr, out_ins, out_non, out_bor, nO, tB, tI, back_eq, put_none,
  List.map_cons, List.map_nil, List.length_cons, List.length_nil, List.replicate, List.getElem?_cons_zero, List.getElem?_cons_succ, List.append_nil, List.nil_append, List.cons_append, List.set_cons_zero, List.set_cons_succ, Option.map_some, Option.isSome_some, Option.isSome_none, if_true, if_false, ite_true, ite_false, Bool.false_eq_true, reduceCtorEq, Nat.reduceAdd, Nat.reduceSub] <;> try dsimp only [Dx.D.fz, Dx.MV.fz])

theorem row_eq {n : Nat} {ra : List Nat} (hv : Valid n ra) : bitsL (maskN ra) = ra := bitsL_maskN hv.asc
theorem mem_scaleR {n : Nat} {ra : List Nat} {f : Int} (hv : Valid n ra) (k : Nat) : k ∈ bitsL (scaleM n (maskN ra) f) ↔ ∃ x ∈ ra, ((x : Int) * f % n).toNat = k := by
  have h := mem_scale (n := n) (m := maskN ra) (f := f) k
  rw [row_eq hv] at h
  rw [← h]
theorem mem_movedR {n : Nat} {ra : List Nat} {f : Int} (hv : Valid n ra) (k : Nat) : k ∈ bitsL (movedM n (maskN ra) f) ↔ ∃ x ∈ ra, (((x : Int) + f) % n).toNat = k := by
  have h := mem_moved (n := n) (A := maskN ra) hv.pos (vm hv) f k
  rw [row_eq hv] at h
  exact h
theorem emod_ne {n : Nat} {i j : Int} (h : 0 < i - j) (h2 : i - j < n) : i % n ≠ j % n := by
  intro e
  have h3 := Int.emod_emod_of_dvd i (Int.dvd_refl (n : Int))
  have h4 := (Int.emod_eq_emod_iff_emod_sub_eq_zero).mp e
  rw [Int.emod_eq_of_lt (by omega) h2] at h4
  omega
theorem nodup_shift {n : Nat} {ra : List Nat} (hv : Valid n ra) (f : Int) : (ra.map fun z : Nat => ((z : Int) + f) % n).Nodup := by
  show List.Pairwise _ _
  rw [List.pairwise_map]
  refine hv.asc.imp_of_mem fun {x y} hx hy hxy => ?_
  have := hv.lt y hy
  exact (emod_ne (by omega) (by omega)).symm
theorem nodup_neg {n : Nat} {ra : List Nat} (hv : Valid n ra) : (ra.map fun z : Nat => ((n : Int) - z) % n).Nodup := by
  show List.Pairwise _ _
  rw [List.pairwise_map]
  refine hv.asc.imp_of_mem fun {x y} hx hy hxy => ?_
  have := hv.lt y hy
  exact emod_ne (by omega) (by omega)
theorem and_row {n : Nat} {ra rb : List Nat} (hv : Valid n ra) (hv' : Valid n rb) : ra.filter (fun k : Nat => decide ((k : Int) ∈ rb.map fun z : Nat => (z : Int))) = bitsL (maskN ra &&& maskN rb) := asc_ext (hv.asc.filter _) (asc_bitsL _) fun k => by
  rw [mem_and, List.mem_filter, decide_eq_true_eq, List.mem_map]
  constructor
  · rintro ⟨h1, z, hz, e⟩
    exact ⟨h1, by rw [← show z = k by omega]; exact hz⟩
  · rintro ⟨h1, h2⟩
    exact ⟨h1, k, h2, rfl⟩
theorem not_row {n : Nat} {ra : List Nat} (hv : Valid n ra) : (List.range n).filter (fun k : Nat => !decide ((k : Int) ∈ ra.map fun z : Nat => (z : Int))) = bitsL (maskN ra ^^^ (1 <<< n - 1)) := asc_ext (asc_filter _ _) (asc_bitsL _) fun k => by
  rw [mem_xor hv.lt, mem_filter_range, Bool.not_eq_true', decide_eq_false_iff_not, List.mem_map]
  constructor
  · rintro ⟨h1, h2⟩
    exact ⟨h1, fun h => h2 ⟨k, h, rfl⟩⟩
  · rintro ⟨h1, h2⟩
    exact ⟨h1, fun ⟨z, hz, e⟩ => h2 (by rw [← show z = k by omega]; exact hz)⟩
theorem id_assoc {n : Nat} {ra rb rc : List Nat} (a : Valid n ra) (b : Valid n rb) (c : Valid n rc) : bitsL (sumsN n (maskN (bitsL (sumsN n (maskN ra) (maskN rb)))) (maskN rc)) = bitsL (sumsN n (maskN ra) (maskN (bitsL (sumsN n (maskN rb) (maskN rc))))) := by
  rw [maskN_bitsL, maskN_bitsL, sums_assoc a.pos (vm a) (vm b) (vm c)]
theorem id_comm {n : Nat} {ra rb : List Nat} (a : Valid n ra) (b : Valid n rb) : bitsL (sumsN n (maskN ra) (maskN rb)) = bitsL (sumsN n (maskN rb) (maskN ra)) := by
  rw [sums_comm a.pos (vm a) (vm b)]
theorem id_inv {n : Nat} {ra : List Nat} (a : Valid n ra) : bitsL (maskN (bitsL (maskN ra ^^^ (1 <<< n - 1))) ^^^ (1 <<< n - 1)) = ra := by
  rw [maskN_bitsL, inv_inv, row_eq a]
theorem id_neg {n : Nat} {ra : List Nat} (a : Valid n ra) : bitsL (scaleM n (maskN (bitsL (scaleM n (maskN ra) (-1)))) (-1)) = ra := by
  rw [maskN_bitsL]
  have h := neg_neg' a.pos (vm a)
  exact (congrArg bitsL h).trans (row_eq a)
theorem id_moved {n : Nat} {ra : List Nat} (a : Valid n ra) (f : Int) : bitsL (movedM n (maskN ra) f) = bitsL (sumsN n (maskN ra) (maskN [(f % n).toNat])) := congrArg bitsL (moved_sum a.pos (vm a) f)
theorem id_one {n : Nat} {ra : List Nat} (a : Valid n ra) : bitsL (scaleM n (maskN ra) 1) = ra := (congrArg bitsL (scale_one a.pos (vm a))).trans (row_eq a)
theorem valid_one {n : Nat} (h1 : 1 ≤ n) (h2 : n ≤ 240) (f : Int) : Valid n [(f % n).toNat] := ⟨h1, h2, List.pairwise_singleton _ _, fun k hk => by rw [List.mem_singleton.mp hk]; exact emod_toNat_lt h1 f⟩
theorem ints_row {ns : List Int} {row : List Nat} (h1 : ns.Pairwise (· < ·)) (h2 : row.Pairwise (· < ·)) (h : ∀ k : Int, k ∈ ns ↔ ∃ z ∈ row, (z : Int) = k) : ns.map D.int = natsD row := by
  rw [natsD_ints, int_row h1 h2 h]
theorem sortI_row {ns : List Int} {row : List Nat} (nd : ns.Nodup) (h2 : row.Pairwise (· < ·)) (h : ∀ k : Int, k ∈ ns ↔ ∃ z ∈ row, (z : Int) = k) : (sortI ns).map D.int = natsD row :=
  ints_row (asc_of_sorted (sortI_ok ns).1 (sortI_ok ns).2 nd) h2 fun k => by rw [(sortI_ok ns).1.mem_iff]; exact h k
theorem memG {n : Nat} {ra row : List Nat} {G : Nat → Int} (hn : 1 ≤ n) (h : ∀ k : Nat, k ∈ row ↔ ∃ x ∈ ra, (G x % n).toNat = k) (k : Int) : k ∈ (ra.map fun z => G z % n) ↔ ∃ z ∈ row, (z : Int) = k := by
  rw [List.mem_map]
  constructor
  · rintro ⟨z, hz, rfl⟩
    exact ⟨_, (h _).mpr ⟨z, hz, rfl⟩, emod_toNat hn _⟩
  · rintro ⟨z, hz, rfl⟩
    obtain ⟨x, hx, rfl⟩ := (h z).mp hz
    exact ⟨x, hx, (emod_toNat hn _).symm⟩
theorem neg_row {n : Nat} {ra : List Nat} (hv : Valid n ra) : (sortI (ra.map fun z : Nat => ((n : Int) - z) % n)).map D.int = natsD (bitsL (scaleM n (maskN ra) (-1))) :=
  sortI_row (nodup_neg hv) (asc_bitsL _) (memG (G := fun z => (n : Int) - z) hv.pos fun k => by
    rw [mem_scaleR hv]
    have e : ∀ x : Nat, (x : Int) * -1 % n = ((n : Int) - x) % n := fun x => by
      rw [show (n : Int) - x = (x : Int) * -1 + n by omega, Int.add_emod_right]
    simp only [e])
theorem moved_row {n : Nat} {ra : List Nat} (hv : Valid n ra) {f : Int} : (sortI (ra.map fun z : Nat => ((z : Int) + f) % n)).map D.int = natsD (bitsL (movedM n (maskN ra) f)) :=
  sortI_row (nodup_shift hv f) (asc_bitsL _) (memG (G := fun z => (z : Int) + f) hv.pos fun k => mem_movedR hv k)
theorem mul_row {n : Nat} {ra : List Nat} (hv : Valid n ra) {f : Int} : (sortU (ra.map fun z : Nat => ((z : Int) * f) % n)).map D.int = natsD (bitsL (scaleM n (maskN ra) f)) :=
  sortU_row (asc_bitsL _) (memG (G := fun z => (z : Int) * f) hv.pos fun k => mem_scaleR hv k)
theorem or_row {ra rb : List Nat} : (sortU ((ra ++ rb).map fun z : Nat => (z : Int))).map D.int = natsD (bitsL (maskN ra ||| maskN rb)) :=
  sortU_row (asc_bitsL _) fun k => by
    rw [List.mem_map]
    simp only [mem_or, List.mem_append]
theorem valid_sums {n : Nat} {ra rb : List Nat} (a : Valid n ra) : Valid n (bitsL (sumsN n (maskN ra) (maskN rb))) := valid_bits a.pos a.le (sumsN_lt _ _ _)
theorem valid_scale {n x : Nat} {f : Int} {ra : List Nat} (a : Valid n ra) : Valid n (bitsL (scaleM n x f)) := valid_bits a.pos a.le (scaleM_lt a.pos)
theorem valid_inv {n : Nat} {ra : List Nat} (a : Valid n ra) : Valid n (bitsL (maskN ra ^^^ (1 <<< n - 1))) := valid_bits a.pos a.le (Nat.xor_lt_two_pow (vm a) whole_lt)

section
variable {n c : Nat} {ra rb row : List Nat} {ρ : En} {f : Int} {C : Cal}
theorem bH_add (hn : 7 ≤ n) (va : Valid c ra) (vb : Valid c rb) : binO (RT n) .Add (hoursD c ra) (hoursD c rb) ρ = .ok (ownH c (bitsL (sumsN c (maskN ra) (maskN rb)))) ρ := b_ins (s_add hn va vb)
theorem bH_sub (hn : 7 ≤ n) (va : Valid c ra) (vb : Valid c rb) : binO (RT n) .Sub (hoursD c ra) (hoursD c rb) ρ = .ok (ownH c (bitsL (sumsN c (maskN ra) (scaleM c (maskN rb) (-1))))) ρ := b_ins (s_sub hn va vb)
theorem bH_or (hn : 7 ≤ n) (va : Valid c ra) (vb : Valid c rb) : binO (RT n) .BitOr (hoursD c ra) (hoursD c rb) ρ = .ok (ownH c (bitsL (maskN ra ||| maskN rb))) ρ := b_ins (s_or hn va vb)
theorem bH_and (hn : 7 ≤ n) (va : Valid c ra) (vb : Valid c rb) : binO (RT n) .BitAnd (hoursD c ra) (hoursD c rb) ρ = .ok (ownH c (bitsL (maskN ra &&& maskN rb))) ρ := b_ins (s_and hn va vb)
theorem bH_mul (hn : 7 ≤ n) (va : Valid c ra) : binO (RT n) .Mult (hoursD c ra) (.int f) ρ = .ok (ownH c (bitsL (scaleM c (maskN ra) f))) ρ := by
  have e : binO (RT n) .Mult (hoursD c ra) (.int f) ρ = back ρ none (RT n (.m "Hours" "__mul__") [hoursD c ra, .int f]) := rfl
  rw [e, s_mul hn va]; rfl
theorem uH_neg (hn : 7 ≤ n) (va : Valid c ra) : unO (RT n) .USub (hoursD c ra) ρ = .ok (ownH c (bitsL (scaleM c (maskN ra) (-1)))) ρ := by
  have e : unO (RT n) .USub (hoursD c ra) ρ = back ρ none (RT n (.m "Hours" "__neg__") [hoursD c ra]) := rfl
  rw [e, s_neg hn va]; rfl
theorem uH_inv (hn : 7 ≤ n) (va : Valid c ra) : unO (RT n) .Invert (hoursD c ra) ρ = .ok (ownH c (bitsL (maskN ra ^^^ (1 <<< c - 1)))) ρ := by
  have e : unO (RT n) .Invert (hoursD c ra) ρ = back ρ none (RT n (.m "Hours" "__invert__") [hoursD c ra]) := rfl
  rw [e, s_inv hn va]; rfl
theorem pH (hn : 1 ≤ n) : prpO (RT n) (hoursD c row) "hours" ρ = .ok (.tup (natsD row)) ρ := prp (s_hrs hn)
theorem pC (hn : 1 ≤ n) : prpO (RT n) (hoursD c row) "clock" ρ = .ok (.int (c : Int)) ρ := prp (s_clock hn)
theorem c_sameL {xs : List D} {p : PyData} (h : D.dat (.lst xs) = some p) (s : SeqAt.shaped p = true) : cmpO C .NotEq (.lst xs) (.lst xs) ρ = .ok false ρ := by
  have e : cmpO C .NotEq (.lst xs) (.lst xs) ρ = lift ((eqD (.lst xs) (.lst xs)).map (!·)) ρ := rfl
  have e2 : eqD (.lst xs) (.lst xs) = some true := by
    unfold eqD
    simp only [h, s, and_self, if_true]
    rw [eqv_self s]
  rw [e, e2]; rfl
theorem dat_rows : ∀ rs : List (List Nat), datL (rs.map fun r => D.tup (natsD r)) = some (rs.map fun r => PyData.tuple (r.map fun h : Nat => PyData.int (h : Int)))
  | [] => rfl
  | r :: rs => by
    rw [List.map_cons]
    unfold datL
    rw [dat_rows rs, dat_tupN]
    rfl
theorem c_neRows (rs : List (List Nat)) : cmpO C .NotEq (.lst (rs.map fun r => D.tup (natsD r))) (.lst (rs.map fun r => D.tup (natsD r))) ρ = .ok false ρ := by
  refine c_sameL (p := .list (rs.map fun r => PyData.tuple (r.map fun h : Nat => PyData.int (h : Int)))) ?_ ?_
  · unfold D.dat
    rw [dat_rows]; rfl
  · have := shaped_rowsL (rs.map fun r => r.map fun h : Nat => (h : Int))
    rw [List.map_map] at this
    have e : ((fun r : List Int => PyData.tuple (r.map PyData.int)) ∘ fun r : List Nat => r.map fun h : Nat => (h : Int)) = fun r : List Nat => PyData.tuple (r.map fun h : Nat => PyData.int (h : Int)) := by
      funext r
      show PyData.tuple ((r.map _).map _) = _
      rw [List.map_map]; rfl
    rw [e] at this
    exact this
theorem c_in {k : Nat} : cmpO C .In (.int (k : Int)) (.tup (natsD row)) ρ = .ok (decide ((k : Int) ∈ row.map fun z : Nat => (z : Int))) ρ := by
  have e : cmpO C .In (.int (k : Int)) (.tup (natsD row)) ρ = lift ((intsOf (natsD row)).map fun ns => decide ((k : Int) ∈ ns)) ρ := rfl
  rw [e, intsOf_nats]; rfl
theorem c_notin {k : Nat} : cmpO C .NotIn (.int (k : Int)) (.tup (natsD row)) ρ = .ok (!decide ((k : Int) ∈ row.map fun z : Nat => (z : Int))) ρ := by
  have e : cmpO C .NotIn (.int (k : Int)) (.tup (natsD row)) ρ = lift (((intsOf (natsD row)).map fun ns => decide ((k : Int) ∈ ns)).map (!·)) ρ := rfl
  rw [e, intsOf_nats]; rfl
def apK (i : Nat) (y : D) (ρ : En) (o : Option (Option D)) : OE := match o with
  | some (some d) => match d.mutIs with
    | some xs => if xs.length < sizeLine then .ok .non (ρ.set i (some (d.put (xs ++ [y])))) else .stuck
    | none => .stuck
  | _ => .stuck
theorem ap_eq {i : Nat} {y : D} : appO i y ρ = apK i y ρ ρ[i]? := by
  unfold appO apK keptAt Ev.putAt
  cases h : ρ[i]? with
  | none => rfl
  | some o =>
    cases o with
    | none => rfl
    | some d =>
      first
        | rfl
        | (cases h2 : d.mutIs <;> simp only [h2])
theorem apK_own {i : Nat} {y : D} {xs : List D} (h : xs.length < sizeLine) : apK i y ρ (some (some (.own (.lst xs)))) = .ok .non (ρ.set i (some (.own (.lst (xs ++ [y]))))) := by
  show (if _ then _ else _) = _
  rw [if_pos h]; rfl
theorem sl3 {xs : List D} (h : xs.length < 1000) : xs.length < sizeLine := by unfold sizeLine; omega
theorem c_ne5 {r1 r2 r3 r4 r5 : List Nat} : cmpO C .NotEq (.lst [.tup (natsD r1), .tup (natsD r2), .tup (natsD r3), .tup (natsD r4), .tup (natsD r5)]) (.lst [.tup (natsD r1), .tup (natsD r2), .tup (natsD r3), .tup (natsD r4), .tup (natsD r5)]) ρ = .ok false ρ := c_neRows [r1, r2, r3, r4, r5]
theorem c_ne3 {r1 r2 r3 : List Nat} : cmpO C .NotEq (.lst [.tup (natsD r1), .tup (natsD r2), .tup (natsD r3)]) (.lst [.tup (natsD r1), .tup (natsD r2), .tup (natsD r3)]) ρ = .ok false ρ := c_neRows [r1, r2, r3]
theorem natsD_app {a b : List Nat} : natsD a ++ natsD b = natsD (a ++ b) := by
  unfold natsD
  rw [List.map_append]
theorem natsD_len {a : List Nat} : (natsD a).length = a.length := by
  unfold natsD
  rw [List.length_map]
theorem vlen (v : Valid c ra) : (natsD ra).length ≤ c := by rw [natsD_len]; exact asc_len v.asc v.lt
theorem ne_self {k : Bool} (h : ra = rb) : (!decide (ra = rb)) = false := by rw [decide_eq_true h]; rfl
end

theorem p_10_30 : intOp .Pow 10 30 = some (10 ^ 30) := by rw [i_pow (by decide)]; rfl
theorem p_10_20 : intOp .Pow 10 20 = some (10 ^ 20) := by rw [i_pow (by decide)]; rfl
theorem p_10_18 : intOp .Pow 10 18 = some (10 ^ 18) := by rw [i_pow (by decide)]; rfl
theorem at_3 {d a b c : Int} (h : 0 ≤ d ∧ d < 3) : ∃ x, L2.atI [D.int a, .int b, .int c] d = some (.int x) ∧ (x = a ∨ x = b ∨ x = c) := by
  have : d = 0 ∨ d = 1 ∨ d = 2 := by omega
  rcases this with rfl | rfl | rfl
  · exact ⟨a, rfl, .inl rfl⟩
  · exact ⟨b, rfl, .inr (.inl rfl)⟩
  · exact ⟨c, rfl, .inr (.inr rfl)⟩
theorem at_8 {d a b c e f g i j : Int} (h : 0 ≤ d ∧ d < 8) : ∃ x, L2.atI [D.int a, .int b, .int c, .int e, .int f, .int g, .int i, .int j] d = some (.int x) := by
  have : d = 0 ∨ d = 1 ∨ d = 2 ∨ d = 3 ∨ d = 4 ∨ d = 5 ∨ d = 6 ∨ d = 7 := by omega
  rcases this with rfl | rfl | rfl | rfl | rfl | rfl | rfl | rfl
  · exact ⟨a, rfl⟩
  · exact ⟨b, rfl⟩
  · exact ⟨c, rfl⟩
  · exact ⟨e, rfl⟩
  · exact ⟨f, rfl⟩
  · exact ⟨g, rfl⟩
  · exact ⟨i, rfl⟩
  · exact ⟨j, rfl⟩
theorem sl {l : List D} (h : l.length ≤ 1000) : l.length ≤ sizeLine := by unfold sizeLine; omega
/-- the t-fold sums -/
def powN (c A : Nat) : Nat → Nat
  | 0 => 1
  | t + 1 => sumsN c (powN c A t) A
section
variable {c A X Y a t s : Nat}
theorem one_lt' (h1 : 1 ≤ c) : 1 < 2 ^ c := Nat.one_lt_two_pow (by omega)
theorem powN_lt (h1 : 1 ≤ c) : powN c A t < 2 ^ c := by
  cases t with
  | zero => exact one_lt' h1
  | succ t => exact sumsN_lt _ _ _
theorem mask0 : maskN [0] = 1 := by decide
theorem bits1 : bitsL 1 = [0] := by decide
theorem sums_one (h1 : 1 ≤ c) (hX : X < 2 ^ c) : sumsN c X 1 = X := bitsL_inj fun k => by
  rw [mem_sumsM h1 hX (one_lt' h1), bits1]
  constructor
  · rintro ⟨x, hx, y, hy, rfl⟩
    rw [List.mem_singleton.mp hy, Nat.add_zero, Nat.mod_eq_of_lt (bit_lt hX hx)]
    exact hx
  · intro h
    exact ⟨k, h, 0, List.mem_singleton.mpr rfl, by rw [Nat.add_zero, Nat.mod_eq_of_lt (bit_lt hX h)]⟩
theorem one_sums (h1 : 1 ≤ c) (hX : X < 2 ^ c) : sumsN c 1 X = X := by rw [sums_comm h1 (one_lt' h1) hX, sums_one h1 hX]
theorem powN_add (h1 : 1 ≤ c) (hA : A < 2 ^ c) : ∀ t, powN c A (s + t) = sumsN c (powN c A s) (powN c A t)
  | 0 => (sums_one h1 (powN_lt h1)).symm
  | t + 1 => by
    show sumsN c (powN c A (s + t)) A = sumsN c _ (sumsN c (powN c A t) A)
    rw [powN_add h1 hA t, sums_assoc h1 (powN_lt h1) (powN_lt h1) hA]
theorem powN_two (h1 : 1 ≤ c) (hA : A < 2 ^ c) : ∀ t, powN c (sumsN c A A) t = powN c A (2 * t)
  | 0 => rfl
  | t + 1 => by
    show sumsN c (powN c (sumsN c A A) t) (sumsN c A A) = _
    rw [powN_two h1 hA t, show 2 * (t + 1) = 2 * t + 2 by omega, powN_add h1 hA 2]
    show _ = sumsN c _ (sumsN c (sumsN c 1 A) A)
    rw [one_sums h1 hA]
theorem mem_shift (h1 : 1 ≤ c) (hX : X < 2 ^ c) (ha : a < c) (k : Nat) : k ∈ bitsL (sumsN c X (maskN [a])) ↔ ∃ x ∈ bitsL X, (x + a) % c = k := by
  rw [mem_sumsM h1 hX (maskN_lt fun k hk => by rw [List.mem_singleton.mp hk]; exact ha)]
  constructor
  · rintro ⟨x, hx, y, hy, e⟩
    rw [mem_mask, List.mem_singleton] at hy
    exact ⟨x, hx, hy ▸ e⟩
  · rintro ⟨x, hx, e⟩
    exact ⟨x, hx, a, by rw [mem_mask]; exact List.mem_singleton.mpr rfl, e⟩
theorem nd_bits (X : Nat) : (bitsL X).Nodup := (asc_bitsL X).imp fun h => Nat.ne_of_lt h
/-- a shift keeps the number of members -/
theorem len_shift (h1 : 1 ≤ c) (h2 : c ≤ 240) (hX : X < 2 ^ c) (ha : a < c) : (bitsL X).length ≤ (bitsL (sumsN c X (maskN [a]))).length := by
  have nd := nodup_shift (valid_bits h1 h2 hX) (a : Int)
  have := nd.length_le_of_subset (l₂ := (bitsL (sumsN c X (maskN [a]))).map fun z : Nat => (z : Int)) fun k hk => by
    obtain ⟨x, hx, rfl⟩ := List.mem_map.mp hk
    refine List.mem_map.mpr ⟨(x + a) % c, (mem_shift h1 hX ha _).mpr ⟨x, hx, rfl⟩, ?_⟩
    rw [Int.natCast_emod, Int.natCast_add]
  rwa [List.length_map, List.length_map] at this
theorem shift_sub (h1 : 1 ≤ c) (hX : X < 2 ^ c) (hA : A < 2 ^ c) (ha : a ∈ bitsL A) : bitsL (sumsN c X (maskN [a])) ⊆ bitsL (sumsN c X A) := fun k hk => by
  obtain ⟨x, hx, e⟩ := (mem_shift h1 hX (bit_lt hA ha) k).mp hk
  exact (mem_sumsM h1 hX hA k).mpr ⟨x, hx, a, ha, e⟩
theorem sub_back {l m : List Nat} (nl : l.Nodup) (h : l ⊆ m) (hl : m.length ≤ l.length) : m ⊆ l := fun z hz => by
  by_cases hm : z ∈ l
  · exact hm
  · have := (List.nodup_cons.mpr ⟨hm, nl⟩).length_le_of_subset (l₂ := m) fun w hw => by
      rcases List.mem_cons.mp hw with rfl | hw
      · exact hz
      · exact h hw
    rw [List.length_cons] at this
    omega
theorem grow (h1 : 1 ≤ c) (h2 : c ≤ 240) (hX : X < 2 ^ c) (hA : A < 2 ^ c) (ha : a ∈ bitsL A) : (bitsL X).length + 1 ≤ (bitsL (sumsN c X A)).length ∨ sumsN c X A = sumsN c X (maskN [a]) := by
  have hac := bit_lt hA ha
  have s := shift_sub h1 hX hA ha
  have g := len_shift h1 h2 hX hac
  by_cases h : (bitsL (sumsN c X A)).length ≤ (bitsL (sumsN c X (maskN [a]))).length
  · have b := sub_back (nd_bits _) s h
    exact .inr (bitsL_inj fun k => ⟨fun h => b h, fun h => s h⟩)
  · exact .inl (by omega)
theorem stay (h1 : 1 ≤ c) (hA : A < 2 ^ c) (ha : a < c) (h : powN c A (t + 1) = sumsN c (powN c A t) (maskN [a])) : powN c A (t + 2) = sumsN c (powN c A (t + 1)) (maskN [a]) := by
  have hm : maskN [a] < 2 ^ c := maskN_lt fun k hk => by rw [List.mem_singleton.mp hk]; exact ha
  show sumsN c (powN c A (t + 1)) A = sumsN c (sumsN c (powN c A t) A) (maskN [a])
  rw [h, sums_assoc h1 (powN_lt h1) hm hA, sums_comm h1 hm hA, ← sums_assoc h1 (powN_lt h1) hA hm]
theorem stay_all (h1 : 1 ≤ c) (hA : A < 2 ^ c) (ha : a < c) (h : powN c A (t + 1) = sumsN c (powN c A t) (maskN [a])) : ∀ j, powN c A (t + j + 1) = sumsN c (powN c A (t + j)) (maskN [a])
  | 0 => h
  | j + 1 => stay h1 hA ha (stay_all h1 hA ha h j)
theorem steady (h1 : 1 ≤ c) (h2 : c ≤ 240) (hA : A < 2 ^ c) (ha : a ∈ bitsL A) (ht : c ≤ t) : powN c A (t + 1) = sumsN c (powN c A t) (maskN [a]) := by
  have key : ∀ n, (∃ t0, t0 < n ∧ powN c A (t0 + 1) = sumsN c (powN c A t0) (maskN [a])) ∨ n + 1 ≤ (bitsL (powN c A n)).length := fun n => by
    induction n with
    | zero => exact .inr (by show 1 ≤ (bitsL 1).length; rw [bits1]; decide)
    | succ n ih =>
      rcases ih with ⟨t0, h, e⟩ | h
      · exact .inl ⟨t0, by omega, e⟩
      · rcases grow h1 h2 (powN_lt (t := n) h1) hA ha with g | g
        · exact .inr (Nat.le_trans (Nat.add_le_add_right h 1) g)
        · exact .inl ⟨n, by omega, g⟩
  rcases key c with ⟨t0, h, e⟩ | h
  · have := stay_all h1 hA (bit_lt hA ha) e (t - t0)
    rwa [show t0 + (t - t0) = t by omega] at this
  · have := asc_len (asc_bitsL (powN c A c)) (fun k hk => bit_lt (powN_lt h1) hk)
    omega
theorem steady_j (h1 : 1 ≤ c) (h2 : c ≤ 240) (hA : A < 2 ^ c) (ha : a ∈ bitsL A) (ht : c ≤ t) : ∀ j, powN c A (t + j) = sumsN c (powN c A t) (maskN [j * a % c])
  | 0 => by rw [Nat.zero_mul, Nat.zero_mod, mask0, Nat.add_zero, sums_one h1 (powN_lt h1)]
  | j + 1 => by
    have hm : ∀ z, z < c → maskN [z] < 2 ^ c := fun z hz => maskN_lt fun k hk => by rw [List.mem_singleton.mp hk]; exact hz
    have hac := bit_lt hA ha
    rw [show t + (j + 1) = (t + j) + 1 by omega, steady h1 h2 hA ha (by omega), steady_j h1 h2 hA ha ht j, sums_assoc h1 (powN_lt h1) (hm _ (Nat.mod_lt _ h1)) (hm _ hac)]
    congr 1
    refine bitsL_inj fun k => ?_
    rw [mem_shift h1 (hm _ (Nat.mod_lt _ h1)) hac]
    rw [mem_mask, List.mem_singleton]
    constructor
    · rintro ⟨x, hx, rfl⟩
      rw [mem_mask, List.mem_singleton] at hx
      subst hx
      rw [Nat.mod_add_mod, Nat.add_mul, Nat.one_mul]
    · rintro rfl
      exact ⟨j * a % c, by rw [mem_mask]; exact List.mem_singleton.mpr rfl, by rw [Nat.mod_add_mod, Nat.add_mul, Nat.one_mul]⟩
theorem round1 (h1 : 1 ≤ c) (h2 : c ≤ 240) (hA : A < 2 ^ c) (ht : c ≤ t) : powN c A (t + c) = powN c A t := by
  cases hb : bitsL A with
  | nil =>
    have z : ∀ X, X < 2 ^ c → ∀ Y, Y < 2 ^ c → sumsN c X A = sumsN c Y A := fun X hX Y hY => bitsL_inj fun k => by
      rw [mem_sumsM h1 hX hA, mem_sumsM h1 hY hA, hb]
      simp
    obtain ⟨u, rfl⟩ : ∃ u, t = u + 1 := ⟨t - 1, by omega⟩
    rw [show u + 1 + c = (u + c) + 1 by omega]
    exact z _ (powN_lt h1) _ (powN_lt h1)
  | cons a r =>
    have ha : a ∈ bitsL A := by rw [hb]; exact List.mem_cons_self ..
    rw [steady_j h1 h2 hA ha ht c, Nat.mul_mod_right, mask0, sums_one h1 (powN_lt h1)]
theorem rounds (h1 : 1 ≤ c) (h2 : c ≤ 240) (hA : A < 2 ^ c) (ht : c ≤ t) : ∀ q, powN c A (t + q * c) = powN c A t
  | 0 => by rw [Nat.zero_mul, Nat.add_zero]
  | q + 1 => by rw [show t + (q + 1) * c = (t + q * c) + c by rw [Nat.add_mul]; omega, round1 h1 h2 hA (by omega), rounds h1 h2 hA ht q]
theorem less_far (h1 : 1 ≤ c) (h2 : c ≤ 240) (hA : A < 2 ^ c) (h : 2 * c ≤ t) : powN c A (2 * c + t % c) = powN c A t := by
  have := rounds h1 h2 hA (t := 2 * c + t % c) (by omega) (t / c - 2)
  rw [← this]
  congr 1
  have e := Nat.div_add_mod t c
  have e2 : 2 ≤ t / c := (Nat.le_div_iff_mul_le h1).mpr h
  have h3 : 2 * c ≤ c * (t / c) := by rw [Nat.mul_comm 2 c]; exact Nat.mul_le_mul_left c e2
  rw [Nat.sub_mul, Nat.mul_comm (t / c) c]
  omega
end

theorem lev_scr {C : Cal} {ds : List D} {ρ : En} : levO C 0 (some (.scr ds) :: ρ) = .ok (.int ds.length) (some (.scr ds) :: ρ) := rfl
theorem at_int {ns : List Int} {i : Int} (h : 0 ≤ i ∧ i < ns.length) : ∃ z, L2.atI (ns.map D.int) i = some (.int z) := by
  obtain ⟨k, rfl⟩ := Int.eq_ofNat_of_zero_le h.1
  have hk : k < ns.length := by omega
  exact ⟨ns[k], L2.atI_nat (by rw [List.getElem?_map, List.getElem?_eq_getElem hk]; rfl)⟩
theorem cut_mem {ns : List Int} {lo hi : Option Int} {d : D} (h : d ∈ cutD (ns.map D.int) lo hi) : ∃ z, d = .int z := by
  have h1 := List.mem_of_mem_drop (List.mem_of_mem_take h)
  obtain ⟨z, _, rfl⟩ := List.mem_map.mp h1
  exact ⟨z, rfl⟩
theorem cut_len {ds : List D} {lo hi : Option Int} : (cutD ds lo hi).length ≤ ds.length := by
  unfold cutD
  rw [List.length_take, List.length_drop]
  omega
theorem run_ex {step : D → En → Out Ev.Flow En} {xs : List D} {ρ : En} {X : Out Ev.Flow En} (hX : forD step xs ρ = X) (I : Nat → En → Prop) (h0 : I 0 ρ) (h : ∀ k x ρ, xs[k]? = some x → I k ρ → ∃ ρ', (step x ρ = .ok .nx ρ' ∨ step x ρ = .ok .ct ρ') ∧ I (k + 1) ρ') : ∃ ρ', X = .ok .nx ρ' ∧ I xs.length ρ' := by
  obtain ⟨ρ', h1, h2⟩ := forD_run I (i := 0) (xs := xs) h0 (by simpa using h)
  exact ⟨ρ', hX ▸ h1, by simpa using h2⟩
theorem s_purse {n : Nat} {ns : List Int} {spot : Nat} (hn : 1 ≤ n) (hl : ns.length ≤ 63) (hs : spot < 64) : ∃ p o, RT n (.f "_law_purse") [.scr (ns.map D.int), .int (spot : Int)] = .ok (.own (purse p)) o ∧ Pu p := by
  obtain ⟨j, rfl, hj⟩ := pos_of hn
  rw [RT, run_of t_purse rfl]
  obtain ⟨cell, e1⟩ : ∃ cell : Int, evE (Ev.run m.T j) (IE.ife (IT.cmp .Lt (IE.var 1) (IE.lev 0)) (IE.idv 0 (IE.var 1)) (IE.bin .Mult (IE.cst (.int 7919)) (IE.bin .Add (IE.var 1) (IE.cst (.int 5))))) [some (.scr (ns.map D.int)), some (.int (spot : Int)), none, none, none] = .ok (.int cell) [some (.scr (ns.map D.int)), some (.int (spot : Int)), none, none, none] := by
    (simp -dsimp only [evB, evS, evE, evT, evL, evA, evA1, evI, evP, evC, asgG, asgL, stoD, bind_eq, it_tup, it_lst, Nat.reduceLT, sz_0, sz_1, sz_2, sz_3, sz_4, sz_5, sz_6, sz_7, sz_8, wipe_nil, wipe_cons, Nat.zero_lt_succ, Nat.not_lt_zero, decide_true, decide_false, lift_some, thenF_nx, thenF_ret, back_none', fin_ret, fin_nx, startN,
  getVar_eq, gv_own, gv_int, gv_bl, gv_str, gv_non, gv_tup, gv_lst, gv_scr, gv_ins, keptAt_eq, kp_some, mi_own, mi_bor, mi_int, mi_bl, mi_str, mi_non, mi_tup, mi_lst, mi_scr, mi_ins, mvAt_eq, mv_some, mv_own, mv_bor, mv_int, mv_bl, mv_str, mv_non, mv_tup, mv_lst, mv_scr, mv_ins,
  fz_own, fz_l, fz_i, fzI, fz_bl, fz_str, fz_non, fzT, fz_lst, fz_scr, fz_ins, fz_set, fz_ty, fz_gl, b_int, i_add, u_neg, u_inv, c_lt, c_le, c_gt, c_ge, c_eqI, c_neI, c_eqB, c_isN, c_notN, t_bl, t_int, t_non, t_tup, t_lst, x_tup, x_lst, x_scr, s_lst, s_scr,
  l_len1, l_len2, l_len3, l_int, l_abs, l_tup, l_tup2, l_list, l_list2, l_max, l_min, l_isi, nil_out, out_int, out_bl, out_tup, out_lst, out_scr, out_ins, out_non, out_bor, nO, tB, tI, back_eq, put_none,
  List.map_cons, List.map_nil, List.length_cons, List.length_nil, List.replicate, List.getElem?_cons_zero, List.getElem?_cons_succ, List.append_nil, List.nil_append, List.cons_append, List.set_cons_zero, List.set_cons_succ, Option.map_some, Option.isSome_some, Option.isSome_none, if_true, if_false, ite_true, ite_false, Bool.false_eq_true, reduceCtorEq, Nat.reduceAdd, Nat.reduceSub, lev_scr] <;> try dsimp only [Dx.D.fz, Dx.MV.fz])
    by_cases h : (spot : Int) < (ns.map D.int).length
    · rw [decide_eq_true h]
      obtain ⟨z, hz⟩ := at_int (ns := ns) (i := spot) ⟨by omega, by simpa using h⟩
      (simp -dsimp only [evB, evS, evE, evT, evL, evA, evA1, evI, evP, evC, asgG, asgL, stoD, bind_eq, it_tup, it_lst, Nat.reduceLT, sz_0, sz_1, sz_2, sz_3, sz_4, sz_5, sz_6, sz_7, sz_8, wipe_nil, wipe_cons, Nat.zero_lt_succ, Nat.not_lt_zero, decide_true, decide_false, lift_some, thenF_nx, thenF_ret, back_none', fin_ret, fin_nx, startN,
  getVar_eq, gv_own, gv_int, gv_bl, gv_str, gv_non, gv_tup, gv_lst, gv_scr, gv_ins, keptAt_eq, kp_some, mi_own, mi_bor, mi_int, mi_bl, mi_str, mi_non, mi_tup, mi_lst, mi_scr, mi_ins, mvAt_eq, mv_some, mv_own, mv_bor, mv_int, mv_bl, mv_str, mv_non, mv_tup, mv_lst, mv_scr, mv_ins,
  fz_own, fz_l, fz_i, fzI, fz_bl, fz_str, fz_non, fzT, fz_lst, fz_scr, fz_ins, fz_set, fz_ty, fz_gl, b_int, i_add, u_neg, u_inv, c_lt, c_le, c_gt, c_ge, c_eqI, c_neI, c_eqB, c_isN, c_notN, t_bl, t_int, t_non, t_tup, t_lst, x_tup, x_lst, x_scr, s_lst, s_scr,
  l_len1, l_len2, l_len3, l_int, l_abs, l_tup, l_tup2, l_list, l_list2, l_max, l_min, l_isi, nil_out, out_int, out_bl, out_tup, out_lst, out_scr, out_ins, out_non, out_bor, nO, tB, tI, back_eq, put_none,
  List.map_cons, List.map_nil, List.length_cons, List.length_nil, List.replicate, List.getElem?_cons_zero, List.getElem?_cons_succ, List.append_nil, List.nil_append, List.cons_append, List.set_cons_zero, List.set_cons_succ, Option.map_some, Option.isSome_some, Option.isSome_none, if_true, if_false, ite_true, ite_false, Bool.false_eq_true, reduceCtorEq, Nat.reduceAdd, Nat.reduceSub, idv_eq] <;> try dsimp only [Dx.D.fz, Dx.MV.fz])
      rw [hz]
      exact ⟨z, rfl⟩
    · rw [decide_eq_false h]
      (simp -dsimp only [evB, evS, evE, evT, evL, evA, evA1, evI, evP, evC, asgG, asgL, stoD, bind_eq, it_tup, it_lst, Nat.reduceLT, sz_0, sz_1, sz_2, sz_3, sz_4, sz_5, sz_6, sz_7, sz_8, wipe_nil, wipe_cons, Nat.zero_lt_succ, Nat.not_lt_zero, decide_true, decide_false, lift_some, thenF_nx, thenF_ret, back_none', fin_ret, fin_nx, startN,
  getVar_eq, gv_own, gv_int, gv_bl, gv_str, gv_non, gv_tup, gv_lst, gv_scr, gv_ins, keptAt_eq, kp_some, mi_own, mi_bor, mi_int, mi_bl, mi_str, mi_non, mi_tup, mi_lst, mi_scr, mi_ins, mvAt_eq, mv_some, mv_own, mv_bor, mv_int, mv_bl, mv_str, mv_non, mv_tup, mv_lst, mv_scr, mv_ins,
  fz_own, fz_l, fz_i, fzI, fz_bl, fz_str, fz_non, fzT, fz_lst, fz_scr, fz_ins, fz_set, fz_ty, fz_gl, b_int, i_add, u_neg, u_inv, c_lt, c_le, c_gt, c_ge, c_eqI, c_neI, c_eqB, c_isN, c_notN, t_bl, t_int, t_non, t_tup, t_lst, x_tup, x_lst, x_scr, s_lst, s_scr,
  l_len1, l_len2, l_len3, l_int, l_abs, l_tup, l_tup2, l_list, l_list2, l_max, l_min, l_isi, nil_out, out_int, out_bl, out_tup, out_lst, out_scr, out_ins, out_non, out_bor, nO, tB, tI, back_eq, put_none,
  List.map_cons, List.map_nil, List.length_cons, List.length_nil, List.replicate, List.getElem?_cons_zero, List.getElem?_cons_succ, List.append_nil, List.nil_append, List.cons_append, List.set_cons_zero, List.set_cons_succ, Option.map_some, Option.isSome_some, Option.isSome_none, if_true, if_false, ite_true, ite_false, Bool.false_eq_true, reduceCtorEq, Nat.reduceAdd, Nat.reduceSub, i_mul (a := 7919) (b := (spot : Int) + 5) (mulOk_l (by decide))] <;> try dsimp only [Dx.D.fz, Dx.MV.fz])
      exact ⟨_, rfl⟩
  simp only [evB, evS]
  rw [show startN 5 [D.scr (ns.map D.int), .int (spot : Int)] = [some (.scr (ns.map D.int)), some (.int (spot : Int)), none, none, none] from rfl, e1]
  (simp -dsimp only [evB, evS, evE, evT, evL, evA, evA1, evI, evP, evC, asgG, asgL, stoD, bind_eq, it_tup, it_lst, Nat.reduceLT, sz_0, sz_1, sz_2, sz_3, sz_4, sz_5, sz_6, sz_7, sz_8, wipe_nil, wipe_cons, Nat.zero_lt_succ, Nat.not_lt_zero, decide_true, decide_false, lift_some, thenF_nx, thenF_ret, back_none', fin_ret, fin_nx, startN,
  getVar_eq, gv_own, gv_int, gv_bl, gv_str, gv_non, gv_tup, gv_lst, gv_scr, gv_ins, keptAt_eq, kp_some, mi_own, mi_bor, mi_int, mi_bl, mi_str, mi_non, mi_tup, mi_lst, mi_scr, mi_ins, mvAt_eq, mv_some, mv_own, mv_bor, mv_int, mv_bl, mv_str, mv_non, mv_tup, mv_lst, mv_scr, mv_ins,
  fz_own, fz_l, fz_i, fzI, fz_bl, fz_str, fz_non, fzT, fz_lst, fz_scr, fz_ins, fz_set, fz_ty, fz_gl, b_int, i_add, u_neg, u_inv, c_lt, c_le, c_gt, c_ge, c_eqI, c_neI, c_eqB, c_isN, c_notN, t_bl, t_int, t_non, t_tup, t_lst, x_tup, x_lst, x_scr, s_lst, s_scr,
  l_len1, l_len2, l_len3, l_int, l_abs, l_tup, l_tup2, l_list, l_list2, l_max, l_min, l_isi, nil_out, out_int, out_bl, out_tup, out_lst, out_scr, out_ins, out_non, out_bor, nO, tB, tI, back_eq, put_none,
  List.map_cons, List.map_nil, List.length_cons, List.length_nil, List.replicate, List.getElem?_cons_zero, List.getElem?_cons_succ, List.append_nil, List.nil_append, List.cons_append, List.set_cons_zero, List.set_cons_succ, Option.map_some, Option.isSome_some, Option.isSome_none, if_true, if_false, ite_true, ite_false, Bool.false_eq_true, reduceCtorEq, Nat.reduceAdd, Nat.reduceSub] <;> try dsimp only [Dx.D.fz, Dx.MV.fz])
  have hb : (cutD (ns.map D.int) none (some 5)).length + [D.int cell].length ≤ sizeLine := by
    have := cut_len (ds := ns.map D.int) (lo := none) (hi := some 5)
    rw [List.length_map] at this
    simp [sizeLine]
    omega
  rw [b_lst hb]
  (simp -dsimp only [evB, evS, evE, evT, evL, evA, evA1, evI, evP, evC, asgG, asgL, stoD, bind_eq, it_tup, it_lst, Nat.reduceLT, sz_0, sz_1, sz_2, sz_3, sz_4, sz_5, sz_6, sz_7, sz_8, wipe_nil, wipe_cons, Nat.zero_lt_succ, Nat.not_lt_zero, decide_true, decide_false, lift_some, thenF_nx, thenF_ret, back_none', fin_ret, fin_nx, startN,
  getVar_eq, gv_own, gv_int, gv_bl, gv_str, gv_non, gv_tup, gv_lst, gv_scr, gv_ins, keptAt_eq, kp_some, mi_own, mi_bor, mi_int, mi_bl, mi_str, mi_non, mi_tup, mi_lst, mi_scr, mi_ins, mvAt_eq, mv_some, mv_own, mv_bor, mv_int, mv_bl, mv_str, mv_non, mv_tup, mv_lst, mv_scr, mv_ins,
  fz_own, fz_l, fz_i, fzI, fz_bl, fz_str, fz_non, fzT, fz_lst, fz_scr, fz_ins, fz_set, fz_ty, fz_gl, b_int, i_add, u_neg, u_inv, c_lt, c_le, c_gt, c_ge, c_eqI, c_neI, c_eqB, c_isN, c_notN, t_bl, t_int, t_non, t_tup, t_lst, x_tup, x_lst, x_scr, s_lst, s_scr,
  l_len1, l_len2, l_len3, l_int, l_abs, l_tup, l_tup2, l_list, l_list2, l_max, l_min, l_isi, nil_out, out_int, out_bl, out_tup, out_lst, out_scr, out_ins, out_non, out_bor, nO, tB, tI, back_eq, put_none,
  List.map_cons, List.map_nil, List.length_cons, List.length_nil, List.replicate, List.getElem?_cons_zero, List.getElem?_cons_succ, List.append_nil, List.nil_append, List.cons_append, List.set_cons_zero, List.set_cons_succ, Option.map_some, Option.isSome_some, Option.isSome_none, if_true, if_false, ite_true, ite_false, Bool.false_eq_true, reduceCtorEq, Nat.reduceAdd, Nat.reduceSub] <;> try dsimp only [Dx.D.fz, Dx.MV.fz])
  generalize hX : forD _ _ _ = X
  have key := run_ex hX (fun _ ρ => ∃ (seed : Int) (o4 : Option D), ρ = [some (.scr (ns.map D.int)), some (.int (spot : Int)), some (.int cell), some (.int seed), o4] ∧ 0 ≤ seed ∧ seed < 2147483647) ⟨211 + spot, none, rfl, by omega, by omega⟩ (by
    rintro k x ρ hk ⟨seed, o4, rfl, s1, s2⟩
    obtain ⟨z, rfl⟩ : ∃ z, x = .int z := by
      rcases List.mem_append.mp (List.mem_of_getElem? hk) with h | h
      · exact cut_mem h
      · exact ⟨cell, List.mem_singleton.mp h⟩
    refine ⟨[some (.scr (ns.map D.int)), some (.int (spot : Int)), some (.int cell), some (.int ((seed * 48271 + z % 2147483647 + 101) % 2147483647)), some (.int z)], .inl ?_, _, _, rfl, Int.emod_nonneg _ (by decide), Int.emod_lt_of_pos _ (by decide)⟩
    (simp -dsimp only [evB, evS, evE, evT, evL, evA, evA1, evI, evP, evC, asgG, asgL, stoD, bind_eq, it_tup, it_lst, Nat.reduceLT, sz_0, sz_1, sz_2, sz_3, sz_4, sz_5, sz_6, sz_7, sz_8, wipe_nil, wipe_cons, Nat.zero_lt_succ, Nat.not_lt_zero, decide_true, decide_false, lift_some, thenF_nx, thenF_ret, back_none', fin_ret, fin_nx, startN,
  getVar_eq, gv_own, gv_int, gv_bl, gv_str, gv_non, gv_tup, gv_lst, gv_scr, gv_ins, keptAt_eq, kp_some, mi_own, mi_bor, mi_int, mi_bl, mi_str, mi_non, mi_tup, mi_lst, mi_scr, mi_ins, mvAt_eq, mv_some, mv_own, mv_bor, mv_int, mv_bl, mv_str, mv_non, mv_tup, mv_lst, mv_scr, mv_ins,
  fz_own, fz_l, fz_i, fzI, fz_bl, fz_str, fz_non, fzT, fz_lst, fz_scr, fz_ins, fz_set, fz_ty, fz_gl, b_int, i_add, u_neg, u_inv, c_lt, c_le, c_gt, c_ge, c_eqI, c_neI, c_eqB, c_isN, c_notN, t_bl, t_int, t_non, t_tup, t_lst, x_tup, x_lst, x_scr, s_lst, s_scr,
  l_len1, l_len2, l_len3, l_int, l_abs, l_tup, l_tup2, l_list, l_list2, l_max, l_min, l_isi, nil_out, out_int, out_bl, out_tup, out_lst, out_scr, out_ins, out_non, out_bor, nO, tB, tI, back_eq, put_none,
  List.map_cons, List.map_nil, List.length_cons, List.length_nil, List.replicate, List.getElem?_cons_zero, List.getElem?_cons_succ, List.append_nil, List.nil_append, List.cons_append, List.set_cons_zero, List.set_cons_succ, Option.map_some, Option.isSome_some, Option.isSome_none, if_true, if_false, ite_true, ite_false, Bool.false_eq_true, reduceCtorEq, Nat.reduceAdd, Nat.reduceSub, i_mul (a := seed) (b := 48271) (mulOk_l (by omega)), i_mod (a := z) (b := 2147483647) (by decide), i_mod (a := seed * 48271 + z % 2147483647 + 101) (b := 2147483647) (by decide)] <;> try dsimp only [Dx.D.fz, Dx.MV.fz]))
  obtain ⟨ρ', rfl, seed, o4, rfl, s1, s2⟩ := key
  (simp -dsimp only [evB, evS, evE, evT, evL, evA, evA1, evI, evP, evC, asgG, asgL, stoD, bind_eq, it_tup, it_lst, Nat.reduceLT, sz_0, sz_1, sz_2, sz_3, sz_4, sz_5, sz_6, sz_7, sz_8, wipe_nil, wipe_cons, Nat.zero_lt_succ, Nat.not_lt_zero, decide_true, decide_false, lift_some, thenF_nx, thenF_ret, back_none', fin_ret, fin_nx, startN,
  getVar_eq, gv_own, gv_int, gv_bl, gv_str, gv_non, gv_tup, gv_lst, gv_scr, gv_ins, keptAt_eq, kp_some, mi_own, mi_bor, mi_int, mi_bl, mi_str, mi_non, mi_tup, mi_lst, mi_scr, mi_ins, mvAt_eq, mv_some, mv_own, mv_bor, mv_int, mv_bl, mv_str, mv_non, mv_tup, mv_lst, mv_scr, mv_ins,
  fz_own, fz_l, fz_i, fzI, fz_bl, fz_str, fz_non, fzT, fz_lst, fz_scr, fz_ins, fz_set, fz_ty, fz_gl, b_int, i_add, u_neg, u_inv, c_lt, c_le, c_gt, c_ge, c_eqI, c_neI, c_eqB, c_isN, c_notN, t_bl, t_int, t_non, t_tup, t_lst, x_tup, x_lst, x_scr, s_lst, s_scr,
  l_len1, l_len2, l_len3, l_int, l_abs, l_tup, l_tup2, l_list, l_list2, l_max, l_min, l_isi, nil_out, out_int, out_bl, out_tup, out_lst, out_scr, out_ins, out_non, out_bor, nO, tB, tI, back_eq, put_none,
  List.map_cons, List.map_nil, List.length_cons, List.length_nil, List.replicate, List.getElem?_cons_zero, List.getElem?_cons_succ, List.append_nil, List.nil_append, List.cons_append, List.set_cons_zero, List.set_cons_succ, Option.map_some, Option.isSome_some, Option.isSome_none, if_true, if_false, ite_true, ite_false, Bool.false_eq_true, reduceCtorEq, Nat.reduceAdd, Nat.reduceSub, p_10_18] <;> try dsimp only [Dx.D.fz, Dx.MV.fz])
  by_cases h : (10 : Int) ^ 18 ≤ (if cell < 0 then -cell else cell)
  · rw [decide_eq_true h]
    (simp -dsimp only [evB, evS, evE, evT, evL, evA, evA1, evI, evP, evC, asgG, asgL, stoD, bind_eq, it_tup, it_lst, Nat.reduceLT, sz_0, sz_1, sz_2, sz_3, sz_4, sz_5, sz_6, sz_7, sz_8, wipe_nil, wipe_cons, Nat.zero_lt_succ, Nat.not_lt_zero, decide_true, decide_false, lift_some, thenF_nx, thenF_ret, back_none', fin_ret, fin_nx, startN,
  getVar_eq, gv_own, gv_int, gv_bl, gv_str, gv_non, gv_tup, gv_lst, gv_scr, gv_ins, keptAt_eq, kp_some, mi_own, mi_bor, mi_int, mi_bl, mi_str, mi_non, mi_tup, mi_lst, mi_scr, mi_ins, mvAt_eq, mv_some, mv_own, mv_bor, mv_int, mv_bl, mv_str, mv_non, mv_tup, mv_lst, mv_scr, mv_ins,
  fz_own, fz_l, fz_i, fzI, fz_bl, fz_str, fz_non, fzT, fz_lst, fz_scr, fz_ins, fz_set, fz_ty, fz_gl, b_int, i_add, u_neg, u_inv, c_lt, c_le, c_gt, c_ge, c_eqI, c_neI, c_eqB, c_isN, c_notN, t_bl, t_int, t_non, t_tup, t_lst, x_tup, x_lst, x_scr, s_lst, s_scr,
  l_len1, l_len2, l_len3, l_int, l_abs, l_tup, l_tup2, l_list, l_list2, l_max, l_min, l_isi, nil_out, out_int, out_bl, out_tup, out_lst, out_scr, out_ins, out_non, out_bor, nO, tB, tI, back_eq, put_none,
  List.map_cons, List.map_nil, List.length_cons, List.length_nil, List.replicate, List.getElem?_cons_zero, List.getElem?_cons_succ, List.append_nil, List.nil_append, List.cons_append, List.set_cons_zero, List.set_cons_succ, Option.map_some, Option.isSome_some, Option.isSome_none, if_true, if_false, ite_true, ite_false, Bool.false_eq_true, reduceCtorEq, Nat.reduceAdd, Nat.reduceSub] <;> try dsimp only [Dx.D.fz, Dx.MV.fz])
    exact ⟨(if cell < 0 then -cell else cell, seed), _, rfl, by show 0 ≤ (if cell < 0 then -cell else cell); split <;> omega, s1, s2⟩
  · rw [decide_eq_false h]
    (simp -dsimp only [evB, evS, evE, evT, evL, evA, evA1, evI, evP, evC, asgG, asgL, stoD, bind_eq, it_tup, it_lst, Nat.reduceLT, sz_0, sz_1, sz_2, sz_3, sz_4, sz_5, sz_6, sz_7, sz_8, wipe_nil, wipe_cons, Nat.zero_lt_succ, Nat.not_lt_zero, decide_true, decide_false, lift_some, thenF_nx, thenF_ret, back_none', fin_ret, fin_nx, startN,
  getVar_eq, gv_own, gv_int, gv_bl, gv_str, gv_non, gv_tup, gv_lst, gv_scr, gv_ins, keptAt_eq, kp_some, mi_own, mi_bor, mi_int, mi_bl, mi_str, mi_non, mi_tup, mi_lst, mi_scr, mi_ins, mvAt_eq, mv_some, mv_own, mv_bor, mv_int, mv_bl, mv_str, mv_non, mv_tup, mv_lst, mv_scr, mv_ins,
  fz_own, fz_l, fz_i, fzI, fz_bl, fz_str, fz_non, fzT, fz_lst, fz_scr, fz_ins, fz_set, fz_ty, fz_gl, b_int, i_add, u_neg, u_inv, c_lt, c_le, c_gt, c_ge, c_eqI, c_neI, c_eqB, c_isN, c_notN, t_bl, t_int, t_non, t_tup, t_lst, x_tup, x_lst, x_scr, s_lst, s_scr,
  l_len1, l_len2, l_len3, l_int, l_abs, l_tup, l_tup2, l_list, l_list2, l_max, l_min, l_isi, nil_out, out_int, out_bl, out_tup, out_lst, out_scr, out_ins, out_non, out_bor, nO, tB, tI, back_eq, put_none,
  List.map_cons, List.map_nil, List.length_cons, List.length_nil, List.replicate, List.getElem?_cons_zero, List.getElem?_cons_succ, List.append_nil, List.nil_append, List.cons_append, List.set_cons_zero, List.set_cons_succ, Option.map_some, Option.isSome_some, Option.isSome_none, if_true, if_false, ite_true, ite_false, Bool.false_eq_true, reduceCtorEq, Nat.reduceAdd, Nat.reduceSub] <;> try dsimp only [Dx.D.fz, Dx.MV.fz])
    exact ⟨(0, seed), _, rfl, Int.le_refl 0, s1, s2⟩
theorem all_tr {C : Cal} {ρ : En} : ∀ hs : List Nat, bltO C .all [.lst (hs.map fun _ => D.bl true)] ρ = .ok (.bl true) ρ := fun hs => by
  have h : ∀ hs : List Nat, ∃ bs, blsOf (hs.map fun _ => D.bl true) = some bs ∧ bs.all id = true := fun hs => by
    induction hs with
    | nil => exact ⟨[], rfl, rfl⟩
    | cons h hs ih =>
      obtain ⟨bs, e, q⟩ := ih
      refine ⟨true :: bs, ?_, by simpa using q⟩
      show (blsOf (hs.map fun _ => D.bl true)).map _ = _
      rw [e]; rfl
  obtain ⟨bs, e, q⟩ := h hs
  have e2 : bltO C .all [.lst (hs.map fun _ => D.bl true)] ρ = lift ((blsOf (hs.map fun _ => D.bl true)).map fun bs => .bl (bs.all id)) ρ := rfl
  rw [e2, e]
  show lift (some (D.bl (bs.all id))) ρ = _
  rw [q]; rfl
end Lw

end
section -- Va
set_option maxRecDepth 100000
set_option maxHeartbeats 2000000
namespace Lw
open PySem Ev Dx Mx
theorem t_folded : m.T (.f "folded") =   some
    { np := 3, ns := 6, mu := [false, false, false],
      body :=
        [IS.asg (IG.tp [IG.nm 3, IG.nm 4, IG.nm 5]) (IE.tup [IE.cst (D.int 1), IE.var 1, IE.var 2]),
          IS.whl (IT.cmp CmpOp.Gt (IE.var 5) (IE.cst (D.int 0)))
            [IS.ite (IT.of (IE.bin Operator.BitAnd (IE.var 5) (IE.cst (D.int 1))))
                [IS.set 3 (IE.cal (Str.ofString "sums") [IA.of (IE.var 0), IA.of (IE.var 3), IA.of (IE.var 4)] [])] [],
              IS.set 4 (IE.cal (Str.ofString "sums") [IA.of (IE.var 0), IA.of (IE.var 4), IA.of (IE.var 4)] []),
              IS.set 5 (IE.bin Operator.RShift (IE.var 5) (IE.cst (D.int 1)))],
          IS.ret (some (IE.var 3))] } := by kernel_rfl
theorem t_fold : m.T (.m "Hours" "fold") =   some
    { np := 2, ns := 2, mu := [false, false],
      body :=
        [IS.expr (IE.cal (Str.ofString "check_times") [IA.of (IE.var 1)] [D.int 0]),
          IS.ret
            (some
              (IE.cal (Str.ofString "of_mask")
                [IA.of (IE.fld (IE.var 0) (Str.ofString "_clock")),
                  IA.of
                    (IE.cal (Str.ofString "folded")
                      [IA.of (IE.fld (IE.var 0) (Str.ofString "_clock")),
                        IA.of (IE.fld (IE.var 0) (Str.ofString "_mask")), IA.of (IE.var 1)]
                      [])]
                []))] } := by kernel_rfl
theorem t_chkt : m.T (.f "check_times") =   some
    { np := 2, ns := 2, mu := [false, false],
      body :=
        [IS.ite
            (IT.or (IT.not (IT.of (IE.cal (Str.ofString "is_integer") [IA.of (IE.var 0)] [])))
              (IT.cmp CmpOp.Lt (IE.var 0) (IE.var 1)))
            [IS.stk] [],
          IS.ite (IT.cmp CmpOp.Gt (IE.var 0) (IE.cst (D.int 1000000000000000000000000000000))) [IS.stk] []] } := by kernel_rfl
theorem t_lfold : m.T (.f "_law_fold") =   some
    { np := 3, ns := 5, mu := [false, false, false],
      body :=
        [IS.set 3 (IE.tup [IE.cst (D.int 0)]),
          IS.for (IG.nm 4) (II.rng [IE.var 2])
            [IS.set 3 (IE.cal (Str.ofString "_law_sums") [IA.of (IE.var 0), IA.of (IE.var 3), IA.of (IE.var 1)] [])],
          IS.ret (some (IE.var 3))] } := by kernel_rfl
theorem t_far : m.T (.f "_law_far") =   some
    { np := 1, ns := 3, mu := [true],
      body :=
        [IS.set 1 (IE.cst (D.int 0)),
          IS.for (IG.nm 2)
            (II.rng
              [IE.bin Operator.Add (IE.cst (D.int 1))
                  (IE.cal (Str.ofString "_law_draw") [IA.var 0, IA.of (IE.cst (D.int 29))] [])])
            [IS.set 1
                (IE.bin Operator.Add (IE.bin Operator.Mult (IE.var 1) (IE.cst (D.int 10)))
                  (IE.cal (Str.ofString "_law_draw") [IA.var 0, IA.of (IE.cst (D.int 10))] []))],
          IS.ret (some (IE.var 1))] } := by kernel_rfl
theorem t_right : m.T (.f "_law_right") =   some
    { np := 1, ns := 10, mu := [true],
      body :=
        [IS.for (IG.nm 1) (II.rng [IE.cst (D.int 3)])
            [IS.set 2
                (IE.bin Operator.Add (IE.cst (D.int 1))
                  (IE.cal (Str.ofString "_law_draw")
                    [IA.var 0,
                      IA.of
                        (IE.idx (IE.lst [IE.cst (D.int 8), IE.cst (D.int 20), IE.cst (D.int 40)])
                          (IE.cal (Str.ofString "_law_draw") [IA.var 0, IA.of (IE.cst (D.int 3))] []))]
                    [])),
              IS.set 3 (IE.cal (Str.ofString "_law_some") [IA.var 0, IA.of (IE.var 2)] []),
              IS.asg (IG.tp [IG.nm 4, IG.nm 5])
                (IE.tup [IE.mak (Str.ofString "Hours") [IE.var 2, IE.var 3] [], IE.tup [IE.cst (D.int 0)]]),
              IS.for (IG.nm 6) (II.rng [IE.cst (D.int 13)])
                [IS.ite
                    (IT.or
                      (IT.cmp CmpOp.NotEq
                        (IE.prp (IE.met (IE.var 4) (Str.ofString "fold") [IE.var 6] [] []) (Str.ofString "hours"))
                        (IE.var 5))
                      (IT.cmp CmpOp.NotEq
                        (IE.prp (IE.met (IE.var 4) (Str.ofString "fold") [] [Str.ofString "times"] [IE.var 6])
                          (Str.ofString "hours"))
                        (IE.var 5)))
                    [IS.ret (some (IE.cst (D.bl false)))] [],
                  IS.set 5
                    (IE.cal (Str.ofString "_law_sums") [IA.of (IE.var 2), IA.of (IE.var 5), IA.of (IE.var 3)] [])],
              IS.asg (IG.tp [IG.nm 7, IG.nm 8])
                (IE.tup
                  [IE.cal (Str.ofString "_law_far") [IA.var 0] [],
                    IE.cal (Str.ofString "_law_draw") [IA.var 0, IA.of (IE.cst (D.int 9))] []]),
              IS.set 9 (IE.var 7),
              IS.ite (IT.cmp CmpOp.GtE (IE.var 7) (IE.bin Operator.Mult (IE.cst (D.int 2)) (IE.var 2)))
                [IS.set 9
                    (IE.bin Operator.Add (IE.bin Operator.Mult (IE.cst (D.int 2)) (IE.var 2))
                      (IE.bin Operator.Mod (IE.blt Bf.int [IE.var 7]) (IE.var 2)))]
                [],
              IS.ite
                (IT.cmp CmpOp.NotEq
                  (IE.prp (IE.met (IE.var 4) (Str.ofString "fold") [IE.var 7] [] []) (Str.ofString "hours"))
                  (IE.cal (Str.ofString "_law_fold") [IA.of (IE.var 2), IA.of (IE.var 3), IA.of (IE.var 9)] []))
                [IS.ret (some (IE.cst (D.bl false)))] [],
              IS.ite
                (IT.cmp CmpOp.NotEq
                  (IE.bin Operator.Add (IE.met (IE.var 4) (Str.ofString "fold") [IE.var 7] [] [])
                    (IE.met (IE.var 4) (Str.ofString "fold") [IE.var 8] [] []))
                  (IE.met (IE.var 4) (Str.ofString "fold") [IE.bin Operator.Add (IE.var 7) (IE.var 8)] [] []))
                [IS.ret (some (IE.cst (D.bl false)))] []],
          IS.ret
            (some
              (IE.and
                (IE.cmp CmpOp.Eq
                  (IE.prp
                    (IE.met (IE.var 4) (Str.ofString "fold")
                      [IE.bin Operator.Pow (IE.cst (D.int 10)) (IE.cst (D.int 30))] [] [])
                    (Str.ofString "clock"))
                  (IE.var 2))
                (IE.cmp CmpOp.Eq (IE.prp (IE.var 4) (Str.ofString "hours")) (IE.var 3))))] } := by kernel_rfl
theorem whl_run {cond : En → Out Bool En} {body : En → Out Ev.Flow En} (I : Nat → En → Prop) (Dn : En → Prop) (h : ∀ k ρ, I k ρ → (cond ρ = .ok false ρ ∧ Dn ρ) ∨ (cond ρ = .ok true ρ ∧ ∃ k' ρ', k' < k ∧ body ρ = .ok .nx ρ' ∧ I k' ρ')) : ∀ m k ρ, I k ρ → k < m → ∃ ρ', whlD cond body m ρ = .ok .nx ρ' ∧ Dn ρ'
  | 0, _, _, _, hm => by omega
  | m + 1, k, ρ, hi, hm => by
    unfold whlD
    rcases h k ρ hi with ⟨e, d⟩ | ⟨e, k', ρ', hk, eb, hi'⟩
    · exact ⟨ρ, by rw [e]; rfl, d⟩
    · obtain ⟨ρ2, e2, d⟩ := whl_run I Dn h m k' ρ' hi' (by omega)
      refine ⟨ρ2, ?_, d⟩
      rw [e, bind_eq, if_pos rfl, eb]
      exact e2
theorem fin_whl {ds : List D} {r : Out D (List MV)} {cond : En → Out Bool En} {body : En → Out Ev.Flow En} {k : En → Out Ev.Flow En} {ρ : En} (I : Nat → En → Prop) (Dn : En → Prop) (h : ∀ k ρ, I k ρ → (cond ρ = .ok false ρ ∧ Dn ρ) ∨ (cond ρ = .ok true ρ ∧ ∃ k' ρ', k' < k ∧ body ρ = .ok .nx ρ' ∧ I k' ρ')) (k0 : Nat) (h0 : I k0 ρ) (hk : k0 < turnsMost) (q : ∀ ρ', Dn ρ' → fin ds (k ρ') = r) : fin ds (thenF (whlD cond body turnsMost ρ) k) = r := by
  obtain ⟨ρ', e, d⟩ := whl_run I Dn h turnsMost k0 ρ h0 hk
  rw [e]
  exact q ρ' d
theorem n_shr1 {a : Nat} : intOp .RShift (a : Int) 1 = some ((a >>> 1 : Nat) : Int) := n_shr (b := 1)
theorem s_folded {n c A t e : Nat} (hn : 4 ≤ n) (h1 : 1 ≤ c) (h2 : c ≤ 240) (hA : A < 2 ^ c) (he : e ≤ 1000) (ht : t < 2 ^ e) : RT n (.f "folded") [.int c, .int A, .int t] = .ok (.int (powN c A t : Nat)) [] := by
  obtain ⟨j, rfl, hj⟩ := pos_of hn
  rw [RT, run_of t_folded rfl]
  (simp -dsimp only [evB, evS, evE, evT, evL, evA, evA1, evI, evP, evC, asgG, asgL, stoD, bind_eq, it_tup, it_lst, Nat.reduceLT, sz_0, sz_1, sz_2, sz_3, sz_4, sz_5, sz_6, sz_7, sz_8, wipe_nil, wipe_cons, Nat.zero_lt_succ, Nat.not_lt_zero, decide_true, decide_false, lift_some, thenF_nx, thenF_ret, back_none', fin_ret, fin_nx, startN,
  getVar_eq, gv_own, gv_int, gv_bl, gv_str, gv_non, gv_tup, gv_lst, gv_scr, gv_ins, keptAt_eq, kp_some, mi_own, mi_bor, mi_int, mi_bl, mi_str, mi_non, mi_tup, mi_lst, mi_scr, mi_ins, mvAt_eq, mv_some, mv_own, mv_bor, mv_int, mv_bl, mv_str, mv_non, mv_tup, mv_lst, mv_scr, mv_ins,
  fz_own, fz_l, fz_i, fzI, fz_bl, fz_str, fz_non, fzT, fz_lst, fz_scr, fz_ins, fz_set, fz_ty, fz_gl, b_int, i_add, u_neg, u_inv, c_lt, c_le, c_gt, c_ge, c_eqI, c_neI, c_eqB, c_isN, c_notN, t_bl, t_int, t_non, t_tup, t_lst, x_tup, x_lst, x_scr, s_lst, s_scr,
  l_len1, l_len2, l_len3, l_int, l_abs, l_tup, l_tup2, l_list, l_list2, l_max, l_min, l_isi, nil_out, out_int, out_bl, out_tup, out_lst, out_scr, out_ins, out_non, out_bor, nO, tB, tI, back_eq, put_none,
  List.map_cons, List.map_nil, List.length_cons, List.length_nil, List.replicate, List.getElem?_cons_zero, List.getElem?_cons_succ, List.append_nil, List.nil_append, List.cons_append, List.set_cons_zero, List.set_cons_succ, Option.map_some, Option.isSome_some, Option.isSome_none, if_true, if_false, ite_true, ite_false, Bool.false_eq_true, reduceCtorEq, Nat.reduceAdd, Nat.reduceSub] <;> try dsimp only [Dx.D.fz, Dx.MV.fz])
  refine fin_whl (fun k ρ => ∃ tot dbl lf : Nat, ρ = [some (.int (c : Int)), some (.int (A : Int)), some (.int (t : Int)), some (.int (tot : Int)), some (.int (dbl : Int)), some (.int (lf : Int))] ∧ lf < 2 ^ k ∧ tot < 2 ^ c ∧ dbl < 2 ^ c ∧ sumsN c tot (powN c dbl lf) = powN c A t)
    (fun ρ => ∃ (x y : Option D), ρ = [some (.int (c : Int)), some (.int (A : Int)), some (.int (t : Int)), some (.int (powN c A t : Nat)), x, y]) ?_ e ⟨1, A, t, rfl, ht, one_lt' h1, hA, one_sums h1 (powN_lt h1)⟩ (by unfold turnsMost; omega) ?_
  · rintro k ρ ⟨tot, dbl, lf, rfl, b1, b2, b3, inv⟩
    by_cases hz : lf = 0
    · subst hz
      refine .inl ⟨by (simp -dsimp only [evB, evS, evE, evT, evL, evA, evA1, evI, evP, evC, asgG, asgL, stoD, bind_eq, it_tup, it_lst, Nat.reduceLT, sz_0, sz_1, sz_2, sz_3, sz_4, sz_5, sz_6, sz_7, sz_8, wipe_nil, wipe_cons, Nat.zero_lt_succ, Nat.not_lt_zero, decide_true, decide_false, lift_some, thenF_nx, thenF_ret, back_none', fin_ret, fin_nx, startN,
  getVar_eq, gv_own, gv_int, gv_bl, gv_str, gv_non, gv_tup, gv_lst, gv_scr, gv_ins, keptAt_eq, kp_some, mi_own, mi_bor, mi_int, mi_bl, mi_str, mi_non, mi_tup, mi_lst, mi_scr, mi_ins, mvAt_eq, mv_some, mv_own, mv_bor, mv_int, mv_bl, mv_str, mv_non, mv_tup, mv_lst, mv_scr, mv_ins,
  fz_own, fz_l, fz_i, fzI, fz_bl, fz_str, fz_non, fzT, fz_lst, fz_scr, fz_ins, fz_set, fz_ty, fz_gl, b_int, i_add, u_neg, u_inv, c_lt, c_le, c_gt, c_ge, c_eqI, c_neI, c_eqB, c_isN, c_notN, t_bl, t_int, t_non, t_tup, t_lst, x_tup, x_lst, x_scr, s_lst, s_scr,
  l_len1, l_len2, l_len3, l_int, l_abs, l_tup, l_tup2, l_list, l_list2, l_max, l_min, l_isi, nil_out, out_int, out_bl, out_tup, out_lst, out_scr, out_ins, out_non, out_bor, nO, tB, tI, back_eq, put_none,
  List.map_cons, List.map_nil, List.length_cons, List.length_nil, List.replicate, List.getElem?_cons_zero, List.getElem?_cons_succ, List.append_nil, List.nil_append, List.cons_append, List.set_cons_zero, List.set_cons_succ, Option.map_some, Option.isSome_some, Option.isSome_none, if_true, if_false, ite_true, ite_false, Bool.false_eq_true, reduceCtorEq, Nat.reduceAdd, Nat.reduceSub] <;> try dsimp only [Dx.D.fz, Dx.MV.fz]); rfl, some (.int (dbl : Int)), some (.int ((0 : Nat) : Int)), ?_⟩
      rw [show powN c A t = tot by rw [← inv]; exact sums_one h1 b2]
    · refine .inr ⟨by (simp -dsimp only [evB, evS, evE, evT, evL, evA, evA1, evI, evP, evC, asgG, asgL, stoD, bind_eq, it_tup, it_lst, Nat.reduceLT, sz_0, sz_1, sz_2, sz_3, sz_4, sz_5, sz_6, sz_7, sz_8, wipe_nil, wipe_cons, Nat.zero_lt_succ, Nat.not_lt_zero, decide_true, decide_false, lift_some, thenF_nx, thenF_ret, back_none', fin_ret, fin_nx, startN,
  getVar_eq, gv_own, gv_int, gv_bl, gv_str, gv_non, gv_tup, gv_lst, gv_scr, gv_ins, keptAt_eq, kp_some, mi_own, mi_bor, mi_int, mi_bl, mi_str, mi_non, mi_tup, mi_lst, mi_scr, mi_ins, mvAt_eq, mv_some, mv_own, mv_bor, mv_int, mv_bl, mv_str, mv_non, mv_tup, mv_lst, mv_scr, mv_ins,
  fz_own, fz_l, fz_i, fzI, fz_bl, fz_str, fz_non, fzT, fz_lst, fz_scr, fz_ins, fz_set, fz_ty, fz_gl, b_int, i_add, u_neg, u_inv, c_lt, c_le, c_gt, c_ge, c_eqI, c_neI, c_eqB, c_isN, c_notN, t_bl, t_int, t_non, t_tup, t_lst, x_tup, x_lst, x_scr, s_lst, s_scr,
  l_len1, l_len2, l_len3, l_int, l_abs, l_tup, l_tup2, l_list, l_list2, l_max, l_min, l_isi, nil_out, out_int, out_bl, out_tup, out_lst, out_scr, out_ins, out_non, out_bor, nO, tB, tI, back_eq, put_none,
  List.map_cons, List.map_nil, List.length_cons, List.length_nil, List.replicate, List.getElem?_cons_zero, List.getElem?_cons_succ, List.append_nil, List.nil_append, List.cons_append, List.set_cons_zero, List.set_cons_succ, Option.map_some, Option.isSome_some, Option.isSome_none, if_true, if_false, ite_true, ite_false, Bool.false_eq_true, reduceCtorEq, Nat.reduceAdd, Nat.reduceSub] <;> try dsimp only [Dx.D.fz, Dx.MV.fz]); rw [decide_eq_true (show (0 : Int) < (lf : Int) by omega)], ?_⟩
      have hk : k ≠ 0 := fun e => by subst e; simp at b1; omega
      obtain ⟨k', rfl⟩ : ∃ k', k = k' + 1 := ⟨k - 1, by omega⟩
      have hs : lf >>> 1 = lf / 2 := by rw [Nat.shiftRight_eq_div_pow]
      have hlt : lf >>> 1 < 2 ^ k' := by
        rw [hs]
        rw [Nat.pow_succ] at b1
        omega
      have hdd : sumsN c dbl dbl < 2 ^ c := sumsN_lt _ _ _
      by_cases ho : lf % 2 = 1
      · refine ⟨k', [some (.int (c : Int)), some (.int (A : Int)), some (.int (t : Int)), some (.int (sumsN c tot dbl : Nat)), some (.int (sumsN c dbl dbl : Nat)), some (.int (lf >>> 1 : Nat))], Nat.lt_succ_self _, ?_, _, _, _, rfl, hlt, sumsN_lt _ _ _, hdd, ?_⟩
        · (simp -dsimp only [evB, evS, evE, evT, evL, evA, evA1, evI, evP, evC, asgG, asgL, stoD, bind_eq, it_tup, it_lst, Nat.reduceLT, sz_0, sz_1, sz_2, sz_3, sz_4, sz_5, sz_6, sz_7, sz_8, wipe_nil, wipe_cons, Nat.zero_lt_succ, Nat.not_lt_zero, decide_true, decide_false, lift_some, thenF_nx, thenF_ret, back_none', fin_ret, fin_nx, startN,
  getVar_eq, gv_own, gv_int, gv_bl, gv_str, gv_non, gv_tup, gv_lst, gv_scr, gv_ins, keptAt_eq, kp_some, mi_own, mi_bor, mi_int, mi_bl, mi_str, mi_non, mi_tup, mi_lst, mi_scr, mi_ins, mvAt_eq, mv_some, mv_own, mv_bor, mv_int, mv_bl, mv_str, mv_non, mv_tup, mv_lst, mv_scr, mv_ins,
  fz_own, fz_l, fz_i, fzI, fz_bl, fz_str, fz_non, fzT, fz_lst, fz_scr, fz_ins, fz_set, fz_ty, fz_gl, b_int, i_add, u_neg, u_inv, c_lt, c_le, c_gt, c_ge, c_eqI, c_neI, c_eqB, c_isN, c_notN, t_bl, t_int, t_non, t_tup, t_lst, x_tup, x_lst, x_scr, s_lst, s_scr,
  l_len1, l_len2, l_len3, l_int, l_abs, l_tup, l_tup2, l_list, l_list2, l_max, l_min, l_isi, nil_out, out_int, out_bl, out_tup, out_lst, out_scr, out_ins, out_non, out_bor, nO, tB, tI, back_eq, put_none,
  List.map_cons, List.map_nil, List.length_cons, List.length_nil, List.replicate, List.getElem?_cons_zero, List.getElem?_cons_succ, List.append_nil, List.nil_append, List.cons_append, List.set_cons_zero, List.set_cons_succ, Option.map_some, Option.isSome_some, Option.isSome_none, if_true, if_false, ite_true, ite_false, Bool.false_eq_true, reduceCtorEq, Nat.reduceAdd, Nat.reduceSub, n_and1] <;> try dsimp only [Dx.D.fz, Dx.MV.fz])
          rw [show (((lf &&& 1 : Nat) : Int) != 0) = true by rw [Nat.and_one_is_mod, ho]; rfl]
          (simp -dsimp only [evB, evS, evE, evT, evL, evA, evA1, evI, evP, evC, asgG, asgL, stoD, bind_eq, it_tup, it_lst, Nat.reduceLT, sz_0, sz_1, sz_2, sz_3, sz_4, sz_5, sz_6, sz_7, sz_8, wipe_nil, wipe_cons, Nat.zero_lt_succ, Nat.not_lt_zero, decide_true, decide_false, lift_some, thenF_nx, thenF_ret, back_none', fin_ret, fin_nx, startN,
  getVar_eq, gv_own, gv_int, gv_bl, gv_str, gv_non, gv_tup, gv_lst, gv_scr, gv_ins, keptAt_eq, kp_some, mi_own, mi_bor, mi_int, mi_bl, mi_str, mi_non, mi_tup, mi_lst, mi_scr, mi_ins, mvAt_eq, mv_some, mv_own, mv_bor, mv_int, mv_bl, mv_str, mv_non, mv_tup, mv_lst, mv_scr, mv_ins,
  fz_own, fz_l, fz_i, fzI, fz_bl, fz_str, fz_non, fzT, fz_lst, fz_scr, fz_ins, fz_set, fz_ty, fz_gl, b_int, i_add, u_neg, u_inv, c_lt, c_le, c_gt, c_ge, c_eqI, c_neI, c_eqB, c_isN, c_notN, t_bl, t_int, t_non, t_tup, t_lst, x_tup, x_lst, x_scr, s_lst, s_scr,
  l_len1, l_len2, l_len3, l_int, l_abs, l_tup, l_tup2, l_list, l_list2, l_max, l_min, l_isi, nil_out, out_int, out_bl, out_tup, out_lst, out_scr, out_ins, out_non, out_bor, nO, tB, tI, back_eq, put_none,
  List.map_cons, List.map_nil, List.length_cons, List.length_nil, List.replicate, List.getElem?_cons_zero, List.getElem?_cons_succ, List.append_nil, List.nil_append, List.cons_append, List.set_cons_zero, List.set_cons_succ, Option.map_some, Option.isSome_some, Option.isSome_none, if_true, if_false, ite_true, ite_false, Bool.false_eq_true, reduceCtorEq, Nat.reduceAdd, Nat.reduceSub] <;> try dsimp only [Dx.D.fz, Dx.MV.fz])
          rw [calO_eq (bag_d (bag_d (bag_d bag_nil))) (s_sums (n := j) hj h2 b2 b3)]
          (simp -dsimp only [evB, evS, evE, evT, evL, evA, evA1, evI, evP, evC, asgG, asgL, stoD, bind_eq, it_tup, it_lst, Nat.reduceLT, sz_0, sz_1, sz_2, sz_3, sz_4, sz_5, sz_6, sz_7, sz_8, wipe_nil, wipe_cons, Nat.zero_lt_succ, Nat.not_lt_zero, decide_true, decide_false, lift_some, thenF_nx, thenF_ret, back_none', fin_ret, fin_nx, startN,
  getVar_eq, gv_own, gv_int, gv_bl, gv_str, gv_non, gv_tup, gv_lst, gv_scr, gv_ins, keptAt_eq, kp_some, mi_own, mi_bor, mi_int, mi_bl, mi_str, mi_non, mi_tup, mi_lst, mi_scr, mi_ins, mvAt_eq, mv_some, mv_own, mv_bor, mv_int, mv_bl, mv_str, mv_non, mv_tup, mv_lst, mv_scr, mv_ins,
  fz_own, fz_l, fz_i, fzI, fz_bl, fz_str, fz_non, fzT, fz_lst, fz_scr, fz_ins, fz_set, fz_ty, fz_gl, b_int, i_add, u_neg, u_inv, c_lt, c_le, c_gt, c_ge, c_eqI, c_neI, c_eqB, c_isN, c_notN, t_bl, t_int, t_non, t_tup, t_lst, x_tup, x_lst, x_scr, s_lst, s_scr,
  l_len1, l_len2, l_len3, l_int, l_abs, l_tup, l_tup2, l_list, l_list2, l_max, l_min, l_isi, nil_out, out_int, out_bl, out_tup, out_lst, out_scr, out_ins, out_non, out_bor, nO, tB, tI, back_eq, put_none,
  List.map_cons, List.map_nil, List.length_cons, List.length_nil, List.replicate, List.getElem?_cons_zero, List.getElem?_cons_succ, List.append_nil, List.nil_append, List.cons_append, List.set_cons_zero, List.set_cons_succ, Option.map_some, Option.isSome_some, Option.isSome_none, if_true, if_false, ite_true, ite_false, Bool.false_eq_true, reduceCtorEq, Nat.reduceAdd, Nat.reduceSub] <;> try dsimp only [Dx.D.fz, Dx.MV.fz])
          rw [calO_eq (bag_d (bag_d (bag_d bag_nil))) (s_sums (n := j) hj h2 b3 b3)]
          (simp -dsimp only [evB, evS, evE, evT, evL, evA, evA1, evI, evP, evC, asgG, asgL, stoD, bind_eq, it_tup, it_lst, Nat.reduceLT, sz_0, sz_1, sz_2, sz_3, sz_4, sz_5, sz_6, sz_7, sz_8, wipe_nil, wipe_cons, Nat.zero_lt_succ, Nat.not_lt_zero, decide_true, decide_false, lift_some, thenF_nx, thenF_ret, back_none', fin_ret, fin_nx, startN,
  getVar_eq, gv_own, gv_int, gv_bl, gv_str, gv_non, gv_tup, gv_lst, gv_scr, gv_ins, keptAt_eq, kp_some, mi_own, mi_bor, mi_int, mi_bl, mi_str, mi_non, mi_tup, mi_lst, mi_scr, mi_ins, mvAt_eq, mv_some, mv_own, mv_bor, mv_int, mv_bl, mv_str, mv_non, mv_tup, mv_lst, mv_scr, mv_ins,
  fz_own, fz_l, fz_i, fzI, fz_bl, fz_str, fz_non, fzT, fz_lst, fz_scr, fz_ins, fz_set, fz_ty, fz_gl, b_int, i_add, u_neg, u_inv, c_lt, c_le, c_gt, c_ge, c_eqI, c_neI, c_eqB, c_isN, c_notN, t_bl, t_int, t_non, t_tup, t_lst, x_tup, x_lst, x_scr, s_lst, s_scr,
  l_len1, l_len2, l_len3, l_int, l_abs, l_tup, l_tup2, l_list, l_list2, l_max, l_min, l_isi, nil_out, out_int, out_bl, out_tup, out_lst, out_scr, out_ins, out_non, out_bor, nO, tB, tI, back_eq, put_none,
  List.map_cons, List.map_nil, List.length_cons, List.length_nil, List.replicate, List.getElem?_cons_zero, List.getElem?_cons_succ, List.append_nil, List.nil_append, List.cons_append, List.set_cons_zero, List.set_cons_succ, Option.map_some, Option.isSome_some, Option.isSome_none, if_true, if_false, ite_true, ite_false, Bool.false_eq_true, reduceCtorEq, Nat.reduceAdd, Nat.reduceSub, n_shr1] <;> try dsimp only [Dx.D.fz, Dx.MV.fz])
        · rw [← inv, powN_two h1 b3, hs, show powN c dbl lf = sumsN c dbl (powN c dbl (2 * (lf / 2))) by
            conv => lhs; rw [show lf = 1 + 2 * (lf / 2) by omega]
            rw [powN_add h1 b3]
            show sumsN c (sumsN c 1 dbl) _ = _
            rw [one_sums h1 b3], ← sums_assoc h1 b2 b3 (powN_lt h1)]
      · refine ⟨k', [some (.int (c : Int)), some (.int (A : Int)), some (.int (t : Int)), some (.int (tot : Int)), some (.int (sumsN c dbl dbl : Nat)), some (.int (lf >>> 1 : Nat))], Nat.lt_succ_self _, ?_, _, _, _, rfl, hlt, b2, hdd, ?_⟩
        · (simp -dsimp only [evB, evS, evE, evT, evL, evA, evA1, evI, evP, evC, asgG, asgL, stoD, bind_eq, it_tup, it_lst, Nat.reduceLT, sz_0, sz_1, sz_2, sz_3, sz_4, sz_5, sz_6, sz_7, sz_8, wipe_nil, wipe_cons, Nat.zero_lt_succ, Nat.not_lt_zero, decide_true, decide_false, lift_some, thenF_nx, thenF_ret, back_none', fin_ret, fin_nx, startN,
  getVar_eq, gv_own, gv_int, gv_bl, gv_str, gv_non, gv_tup, gv_lst, gv_scr, gv_ins, keptAt_eq, kp_some, mi_own, mi_bor, mi_int, mi_bl, mi_str, mi_non, mi_tup, mi_lst, mi_scr, mi_ins, mvAt_eq, mv_some, mv_own, mv_bor, mv_int, mv_bl, mv_str, mv_non, mv_tup, mv_lst, mv_scr, mv_ins,
  fz_own, fz_l, fz_i, fzI, fz_bl, fz_str, fz_non, fzT, fz_lst, fz_scr, fz_ins, fz_set, fz_ty, fz_gl, b_int, i_add, u_neg, u_inv, c_lt, c_le, c_gt, c_ge, c_eqI, c_neI, c_eqB, c_isN, c_notN, t_bl, t_int, t_non, t_tup, t_lst, x_tup, x_lst, x_scr, s_lst, s_scr,
  l_len1, l_len2, l_len3, l_int, l_abs, l_tup, l_tup2, l_list, l_list2, l_max, l_min, l_isi, nil_out, out_int, out_bl, out_tup, out_lst, out_scr, out_ins, out_non, out_bor, nO, tB, tI, back_eq, put_none,
  List.map_cons, List.map_nil, List.length_cons, List.length_nil, List.replicate, List.getElem?_cons_zero, List.getElem?_cons_succ, List.append_nil, List.nil_append, List.cons_append, List.set_cons_zero, List.set_cons_succ, Option.map_some, Option.isSome_some, Option.isSome_none, if_true, if_false, ite_true, ite_false, Bool.false_eq_true, reduceCtorEq, Nat.reduceAdd, Nat.reduceSub, n_and1] <;> try dsimp only [Dx.D.fz, Dx.MV.fz])
          rw [show (((lf &&& 1 : Nat) : Int) != 0) = false by rw [Nat.and_one_is_mod, show lf % 2 = 0 by omega]; rfl]
          (simp -dsimp only [evB, evS, evE, evT, evL, evA, evA1, evI, evP, evC, asgG, asgL, stoD, bind_eq, it_tup, it_lst, Nat.reduceLT, sz_0, sz_1, sz_2, sz_3, sz_4, sz_5, sz_6, sz_7, sz_8, wipe_nil, wipe_cons, Nat.zero_lt_succ, Nat.not_lt_zero, decide_true, decide_false, lift_some, thenF_nx, thenF_ret, back_none', fin_ret, fin_nx, startN,
  getVar_eq, gv_own, gv_int, gv_bl, gv_str, gv_non, gv_tup, gv_lst, gv_scr, gv_ins, keptAt_eq, kp_some, mi_own, mi_bor, mi_int, mi_bl, mi_str, mi_non, mi_tup, mi_lst, mi_scr, mi_ins, mvAt_eq, mv_some, mv_own, mv_bor, mv_int, mv_bl, mv_str, mv_non, mv_tup, mv_lst, mv_scr, mv_ins,
  fz_own, fz_l, fz_i, fzI, fz_bl, fz_str, fz_non, fzT, fz_lst, fz_scr, fz_ins, fz_set, fz_ty, fz_gl, b_int, i_add, u_neg, u_inv, c_lt, c_le, c_gt, c_ge, c_eqI, c_neI, c_eqB, c_isN, c_notN, t_bl, t_int, t_non, t_tup, t_lst, x_tup, x_lst, x_scr, s_lst, s_scr,
  l_len1, l_len2, l_len3, l_int, l_abs, l_tup, l_tup2, l_list, l_list2, l_max, l_min, l_isi, nil_out, out_int, out_bl, out_tup, out_lst, out_scr, out_ins, out_non, out_bor, nO, tB, tI, back_eq, put_none,
  List.map_cons, List.map_nil, List.length_cons, List.length_nil, List.replicate, List.getElem?_cons_zero, List.getElem?_cons_succ, List.append_nil, List.nil_append, List.cons_append, List.set_cons_zero, List.set_cons_succ, Option.map_some, Option.isSome_some, Option.isSome_none, if_true, if_false, ite_true, ite_false, Bool.false_eq_true, reduceCtorEq, Nat.reduceAdd, Nat.reduceSub] <;> try dsimp only [Dx.D.fz, Dx.MV.fz])
          rw [calO_eq (bag_d (bag_d (bag_d bag_nil))) (s_sums (n := j) hj h2 b3 b3)]
          (simp -dsimp only [evB, evS, evE, evT, evL, evA, evA1, evI, evP, evC, asgG, asgL, stoD, bind_eq, it_tup, it_lst, Nat.reduceLT, sz_0, sz_1, sz_2, sz_3, sz_4, sz_5, sz_6, sz_7, sz_8, wipe_nil, wipe_cons, Nat.zero_lt_succ, Nat.not_lt_zero, decide_true, decide_false, lift_some, thenF_nx, thenF_ret, back_none', fin_ret, fin_nx, startN,
  getVar_eq, gv_own, gv_int, gv_bl, gv_str, gv_non, gv_tup, gv_lst, gv_scr, gv_ins, keptAt_eq, kp_some, mi_own, mi_bor, mi_int, mi_bl, mi_str, mi_non, mi_tup, mi_lst, mi_scr, mi_ins, mvAt_eq, mv_some, mv_own, mv_bor, mv_int, mv_bl, mv_str, mv_non, mv_tup, mv_lst, mv_scr, mv_ins,
  fz_own, fz_l, fz_i, fzI, fz_bl, fz_str, fz_non, fzT, fz_lst, fz_scr, fz_ins, fz_set, fz_ty, fz_gl, b_int, i_add, u_neg, u_inv, c_lt, c_le, c_gt, c_ge, c_eqI, c_neI, c_eqB, c_isN, c_notN, t_bl, t_int, t_non, t_tup, t_lst, x_tup, x_lst, x_scr, s_lst, s_scr,
  l_len1, l_len2, l_len3, l_int, l_abs, l_tup, l_tup2, l_list, l_list2, l_max, l_min, l_isi, nil_out, out_int, out_bl, out_tup, out_lst, out_scr, out_ins, out_non, out_bor, nO, tB, tI, back_eq, put_none,
  List.map_cons, List.map_nil, List.length_cons, List.length_nil, List.replicate, List.getElem?_cons_zero, List.getElem?_cons_succ, List.append_nil, List.nil_append, List.cons_append, List.set_cons_zero, List.set_cons_succ, Option.map_some, Option.isSome_some, Option.isSome_none, if_true, if_false, ite_true, ite_false, Bool.false_eq_true, reduceCtorEq, Nat.reduceAdd, Nat.reduceSub, n_shr1] <;> try dsimp only [Dx.D.fz, Dx.MV.fz])
        · rw [← inv, powN_two h1 b3, hs, show 2 * (lf / 2) = lf by omega]
  · rintro ρ' ⟨x, y, rfl⟩
    (simp -dsimp only [evB, evS, evE, evT, evL, evA, evA1, evI, evP, evC, asgG, asgL, stoD, bind_eq, it_tup, it_lst, Nat.reduceLT, sz_0, sz_1, sz_2, sz_3, sz_4, sz_5, sz_6, sz_7, sz_8, wipe_nil, wipe_cons, Nat.zero_lt_succ, Nat.not_lt_zero, decide_true, decide_false, lift_some, thenF_nx, thenF_ret, back_none', fin_ret, fin_nx, startN,
  getVar_eq, gv_own, gv_int, gv_bl, gv_str, gv_non, gv_tup, gv_lst, gv_scr, gv_ins, keptAt_eq, kp_some, mi_own, mi_bor, mi_int, mi_bl, mi_str, mi_non, mi_tup, mi_lst, mi_scr, mi_ins, mvAt_eq, mv_some, mv_own, mv_bor, mv_int, mv_bl, mv_str, mv_non, mv_tup, mv_lst, mv_scr, mv_ins,
  fz_own, fz_l, fz_i, fzI, fz_bl, fz_str, fz_non, fzT, fz_lst, fz_scr, fz_ins, fz_set, fz_ty, fz_gl, b_int, i_add, u_neg, u_inv, c_lt, c_le, c_gt, c_ge, c_eqI, c_neI, c_eqB, c_isN, c_notN, t_bl, t_int, t_non, t_tup, t_lst, x_tup, x_lst, x_scr, s_lst, s_scr,
  l_len1, l_len2, l_len3, l_int, l_abs, l_tup, l_tup2, l_list, l_list2, l_max, l_min, l_isi, nil_out, out_int, out_bl, out_tup, out_lst, out_scr, out_ins, out_non, out_bor, nO, tB, tI, back_eq, put_none,
  List.map_cons, List.map_nil, List.length_cons, List.length_nil, List.replicate, List.getElem?_cons_zero, List.getElem?_cons_succ, List.append_nil, List.nil_append, List.cons_append, List.set_cons_zero, List.set_cons_succ, Option.map_some, Option.isSome_some, Option.isSome_none, if_true, if_false, ite_true, ite_false, Bool.false_eq_true, reduceCtorEq, Nat.reduceAdd, Nat.reduceSub] <;> try dsimp only [Dx.D.fz, Dx.MV.fz])
theorem s_chkt {n : Nat} {t : Int} (hn : 2 ≤ n) (h0 : 0 ≤ t) (h1 : t ≤ 1000000000000000000000000000000) : RT n (.f "check_times") [.int t, .int 0] = .ok .non [] := by
  obtain ⟨j, rfl, hj⟩ := pos_of hn
  rw [RT, run_of t_chkt rfl]
  (simp -dsimp only [evB, evS, evE, evT, evL, evA, evA1, evI, evP, evC, asgG, asgL, stoD, bind_eq, it_tup, it_lst, Nat.reduceLT, sz_0, sz_1, sz_2, sz_3, sz_4, sz_5, sz_6, sz_7, sz_8, wipe_nil, wipe_cons, Nat.zero_lt_succ, Nat.not_lt_zero, decide_true, decide_false, lift_some, thenF_nx, thenF_ret, back_none', fin_ret, fin_nx, startN,
  getVar_eq, gv_own, gv_int, gv_bl, gv_str, gv_non, gv_tup, gv_lst, gv_scr, gv_ins, keptAt_eq, kp_some, mi_own, mi_bor, mi_int, mi_bl, mi_str, mi_non, mi_tup, mi_lst, mi_scr, mi_ins, mvAt_eq, mv_some, mv_own, mv_bor, mv_int, mv_bl, mv_str, mv_non, mv_tup, mv_lst, mv_scr, mv_ins,
  fz_own, fz_l, fz_i, fzI, fz_bl, fz_str, fz_non, fzT, fz_lst, fz_scr, fz_ins, fz_set, fz_ty, fz_gl, b_int, i_add, u_neg, u_inv, c_lt, c_le, c_gt, c_ge, c_eqI, c_neI, c_eqB, c_isN, c_notN, t_bl, t_int, t_non, t_tup, t_lst, x_tup, x_lst, x_scr, s_lst, s_scr,
  l_len1, l_len2, l_len3, l_int, l_abs, l_tup, l_tup2, l_list, l_list2, l_max, l_min, l_isi, nil_out, out_int, out_bl, out_tup, out_lst, out_scr, out_ins, out_non, out_bor, nO, tB, tI, back_eq, put_none,
  List.map_cons, List.map_nil, List.length_cons, List.length_nil, List.replicate, List.getElem?_cons_zero, List.getElem?_cons_succ, List.append_nil, List.nil_append, List.cons_append, List.set_cons_zero, List.set_cons_succ, Option.map_some, Option.isSome_some, Option.isSome_none, if_true, if_false, ite_true, ite_false, Bool.false_eq_true, reduceCtorEq, Nat.reduceAdd, Nat.reduceSub] <;> try dsimp only [Dx.D.fz, Dx.MV.fz])
  rw [calO_eq (bag_d bag_nil) (s_isint hj)]
  (simp -dsimp only [evB, evS, evE, evT, evL, evA, evA1, evI, evP, evC, asgG, asgL, stoD, bind_eq, it_tup, it_lst, Nat.reduceLT, sz_0, sz_1, sz_2, sz_3, sz_4, sz_5, sz_6, sz_7, sz_8, wipe_nil, wipe_cons, Nat.zero_lt_succ, Nat.not_lt_zero, decide_true, decide_false, lift_some, thenF_nx, thenF_ret, back_none', fin_ret, fin_nx, startN,
  getVar_eq, gv_own, gv_int, gv_bl, gv_str, gv_non, gv_tup, gv_lst, gv_scr, gv_ins, keptAt_eq, kp_some, mi_own, mi_bor, mi_int, mi_bl, mi_str, mi_non, mi_tup, mi_lst, mi_scr, mi_ins, mvAt_eq, mv_some, mv_own, mv_bor, mv_int, mv_bl, mv_str, mv_non, mv_tup, mv_lst, mv_scr, mv_ins,
  fz_own, fz_l, fz_i, fzI, fz_bl, fz_str, fz_non, fzT, fz_lst, fz_scr, fz_ins, fz_set, fz_ty, fz_gl, b_int, i_add, u_neg, u_inv, c_lt, c_le, c_gt, c_ge, c_eqI, c_neI, c_eqB, c_isN, c_notN, t_bl, t_int, t_non, t_tup, t_lst, x_tup, x_lst, x_scr, s_lst, s_scr,
  l_len1, l_len2, l_len3, l_int, l_abs, l_tup, l_tup2, l_list, l_list2, l_max, l_min, l_isi, nil_out, out_int, out_bl, out_tup, out_lst, out_scr, out_ins, out_non, out_bor, nO, tB, tI, back_eq, put_none,
  List.map_cons, List.map_nil, List.length_cons, List.length_nil, List.replicate, List.getElem?_cons_zero, List.getElem?_cons_succ, List.append_nil, List.nil_append, List.cons_append, List.set_cons_zero, List.set_cons_succ, Option.map_some, Option.isSome_some, Option.isSome_none, if_true, if_false, ite_true, ite_false, Bool.false_eq_true, reduceCtorEq, Nat.reduceAdd, Nat.reduceSub, Bool.not_true] <;> try dsimp only [Dx.D.fz, Dx.MV.fz])
  rw [decide_eq_false (show ¬ t < 0 by omega)]
  (simp -dsimp only [evB, evS, evE, evT, evL, evA, evA1, evI, evP, evC, asgG, asgL, stoD, bind_eq, it_tup, it_lst, Nat.reduceLT, sz_0, sz_1, sz_2, sz_3, sz_4, sz_5, sz_6, sz_7, sz_8, wipe_nil, wipe_cons, Nat.zero_lt_succ, Nat.not_lt_zero, decide_true, decide_false, lift_some, thenF_nx, thenF_ret, back_none', fin_ret, fin_nx, startN,
  getVar_eq, gv_own, gv_int, gv_bl, gv_str, gv_non, gv_tup, gv_lst, gv_scr, gv_ins, keptAt_eq, kp_some, mi_own, mi_bor, mi_int, mi_bl, mi_str, mi_non, mi_tup, mi_lst, mi_scr, mi_ins, mvAt_eq, mv_some, mv_own, mv_bor, mv_int, mv_bl, mv_str, mv_non, mv_tup, mv_lst, mv_scr, mv_ins,
  fz_own, fz_l, fz_i, fzI, fz_bl, fz_str, fz_non, fzT, fz_lst, fz_scr, fz_ins, fz_set, fz_ty, fz_gl, b_int, i_add, u_neg, u_inv, c_lt, c_le, c_gt, c_ge, c_eqI, c_neI, c_eqB, c_isN, c_notN, t_bl, t_int, t_non, t_tup, t_lst, x_tup, x_lst, x_scr, s_lst, s_scr,
  l_len1, l_len2, l_len3, l_int, l_abs, l_tup, l_tup2, l_list, l_list2, l_max, l_min, l_isi, nil_out, out_int, out_bl, out_tup, out_lst, out_scr, out_ins, out_non, out_bor, nO, tB, tI, back_eq, put_none,
  List.map_cons, List.map_nil, List.length_cons, List.length_nil, List.replicate, List.getElem?_cons_zero, List.getElem?_cons_succ, List.append_nil, List.nil_append, List.cons_append, List.set_cons_zero, List.set_cons_succ, Option.map_some, Option.isSome_some, Option.isSome_none, if_true, if_false, ite_true, ite_false, Bool.false_eq_true, reduceCtorEq, Nat.reduceAdd, Nat.reduceSub] <;> try dsimp only [Dx.D.fz, Dx.MV.fz])
  rw [decide_eq_false (show ¬ (1000000000000000000000000000000 : Int) < t by omega)]
  (simp -dsimp only [evB, evS, evE, evT, evL, evA, evA1, evI, evP, evC, asgG, asgL, stoD, bind_eq, it_tup, it_lst, Nat.reduceLT, sz_0, sz_1, sz_2, sz_3, sz_4, sz_5, sz_6, sz_7, sz_8, wipe_nil, wipe_cons, Nat.zero_lt_succ, Nat.not_lt_zero, decide_true, decide_false, lift_some, thenF_nx, thenF_ret, back_none', fin_ret, fin_nx, startN,
  getVar_eq, gv_own, gv_int, gv_bl, gv_str, gv_non, gv_tup, gv_lst, gv_scr, gv_ins, keptAt_eq, kp_some, mi_own, mi_bor, mi_int, mi_bl, mi_str, mi_non, mi_tup, mi_lst, mi_scr, mi_ins, mvAt_eq, mv_some, mv_own, mv_bor, mv_int, mv_bl, mv_str, mv_non, mv_tup, mv_lst, mv_scr, mv_ins,
  fz_own, fz_l, fz_i, fzI, fz_bl, fz_str, fz_non, fzT, fz_lst, fz_scr, fz_ins, fz_set, fz_ty, fz_gl, b_int, i_add, u_neg, u_inv, c_lt, c_le, c_gt, c_ge, c_eqI, c_neI, c_eqB, c_isN, c_notN, t_bl, t_int, t_non, t_tup, t_lst, x_tup, x_lst, x_scr, s_lst, s_scr,
  l_len1, l_len2, l_len3, l_int, l_abs, l_tup, l_tup2, l_list, l_list2, l_max, l_min, l_isi, nil_out, out_int, out_bl, out_tup, out_lst, out_scr, out_ins, out_non, out_bor, nO, tB, tI, back_eq, put_none,
  List.map_cons, List.map_nil, List.length_cons, List.length_nil, List.replicate, List.getElem?_cons_zero, List.getElem?_cons_succ, List.append_nil, List.nil_append, List.cons_append, List.set_cons_zero, List.set_cons_succ, Option.map_some, Option.isSome_some, Option.isSome_none, if_true, if_false, ite_true, ite_false, Bool.false_eq_true, reduceCtorEq, Nat.reduceAdd, Nat.reduceSub] <;> try dsimp only [Dx.D.fz, Dx.MV.fz])
theorem s_fold {n c t : Nat} {ra : List Nat} (hn : 7 ≤ n) (va : Valid c ra) (ht : t ≤ 1000000000000000000000000000000) : RT n (.m "Hours" "fold") [hoursD c ra, .int (t : Int)] = .ok (ownH c (bitsL (powN c (maskN ra) t))) [] := by
  obtain ⟨j, rfl, hj⟩ := pos_of hn
  have ht2 : t < 2 ^ 100 := Nat.lt_of_le_of_lt ht (by decide)
  rw [RT, run_of t_fold rfl]
  (simp -dsimp only [evB, evS, evE, evT, evL, evA, evA1, evI, evP, evC, asgG, asgL, stoD, bind_eq, it_tup, it_lst, Nat.reduceLT, sz_0, sz_1, sz_2, sz_3, sz_4, sz_5, sz_6, sz_7, sz_8, wipe_nil, wipe_cons, Nat.zero_lt_succ, Nat.not_lt_zero, decide_true, decide_false, lift_some, thenF_nx, thenF_ret, back_none', fin_ret, fin_nx, startN,
  getVar_eq, gv_own, gv_int, gv_bl, gv_str, gv_non, gv_tup, gv_lst, gv_scr, gv_ins, keptAt_eq, kp_some, mi_own, mi_bor, mi_int, mi_bl, mi_str, mi_non, mi_tup, mi_lst, mi_scr, mi_ins, mvAt_eq, mv_some, mv_own, mv_bor, mv_int, mv_bl, mv_str, mv_non, mv_tup, mv_lst, mv_scr, mv_ins,
  fz_own, fz_l, fz_i, fzI, fz_bl, fz_str, fz_non, fzT, fz_lst, fz_scr, fz_ins, fz_set, fz_ty, fz_gl, b_int, i_add, u_neg, u_inv, c_lt, c_le, c_gt, c_ge, c_eqI, c_neI, c_eqB, c_isN, c_notN, t_bl, t_int, t_non, t_tup, t_lst, x_tup, x_lst, x_scr, s_lst, s_scr,
  l_len1, l_len2, l_len3, l_int, l_abs, l_tup, l_tup2, l_list, l_list2, l_max, l_min, l_isi, nil_out, out_int, out_bl, out_tup, out_lst, out_scr, out_ins, out_non, out_bor, nO, tB, tI, back_eq, put_none,
  List.map_cons, List.map_nil, List.length_cons, List.length_nil, List.replicate, List.getElem?_cons_zero, List.getElem?_cons_succ, List.append_nil, List.nil_append, List.cons_append, List.set_cons_zero, List.set_cons_succ, Option.map_some, Option.isSome_some, Option.isSome_none, if_true, if_false, ite_true, ite_false, Bool.false_eq_true, reduceCtorEq, Nat.reduceAdd, Nat.reduceSub] <;> try dsimp only [Dx.D.fz, Dx.MV.fz])
  rw [calO_eq (bag_d bag_nil) (s_chkt (n := j) (t := (t : Int)) (by omega) (by omega) (by omega))]
  (simp -dsimp only [evB, evS, evE, evT, evL, evA, evA1, evI, evP, evC, asgG, asgL, stoD, bind_eq, it_tup, it_lst, Nat.reduceLT, sz_0, sz_1, sz_2, sz_3, sz_4, sz_5, sz_6, sz_7, sz_8, wipe_nil, wipe_cons, Nat.zero_lt_succ, Nat.not_lt_zero, decide_true, decide_false, lift_some, thenF_nx, thenF_ret, back_none', fin_ret, fin_nx, startN,
  getVar_eq, gv_own, gv_int, gv_bl, gv_str, gv_non, gv_tup, gv_lst, gv_scr, gv_ins, keptAt_eq, kp_some, mi_own, mi_bor, mi_int, mi_bl, mi_str, mi_non, mi_tup, mi_lst, mi_scr, mi_ins, mvAt_eq, mv_some, mv_own, mv_bor, mv_int, mv_bl, mv_str, mv_non, mv_tup, mv_lst, mv_scr, mv_ins,
  fz_own, fz_l, fz_i, fzI, fz_bl, fz_str, fz_non, fzT, fz_lst, fz_scr, fz_ins, fz_set, fz_ty, fz_gl, b_int, i_add, u_neg, u_inv, c_lt, c_le, c_gt, c_ge, c_eqI, c_neI, c_eqB, c_isN, c_notN, t_bl, t_int, t_non, t_tup, t_lst, x_tup, x_lst, x_scr, s_lst, s_scr,
  l_len1, l_len2, l_len3, l_int, l_abs, l_tup, l_tup2, l_list, l_list2, l_max, l_min, l_isi, nil_out, out_int, out_bl, out_tup, out_lst, out_scr, out_ins, out_non, out_bor, nO, tB, tI, back_eq, put_none,
  List.map_cons, List.map_nil, List.length_cons, List.length_nil, List.replicate, List.getElem?_cons_zero, List.getElem?_cons_succ, List.append_nil, List.nil_append, List.cons_append, List.set_cons_zero, List.set_cons_succ, Option.map_some, Option.isSome_some, Option.isSome_none, if_true, if_false, ite_true, ite_false, Bool.false_eq_true, reduceCtorEq, Nat.reduceAdd, Nat.reduceSub, fg lk_c, fg lk_m] <;> try dsimp only [Dx.D.fz, Dx.MV.fz])
  rw [calO_eq (bag_d (bag_d (bag_d bag_nil))) (s_folded (n := j) (e := 100) (by omega) va.pos va.le (vm va) (by decide) ht2)]
  (simp -dsimp only [evB, evS, evE, evT, evL, evA, evA1, evI, evP, evC, asgG, asgL, stoD, bind_eq, it_tup, it_lst, Nat.reduceLT, sz_0, sz_1, sz_2, sz_3, sz_4, sz_5, sz_6, sz_7, sz_8, wipe_nil, wipe_cons, Nat.zero_lt_succ, Nat.not_lt_zero, decide_true, decide_false, lift_some, thenF_nx, thenF_ret, back_none', fin_ret, fin_nx, startN,
  getVar_eq, gv_own, gv_int, gv_bl, gv_str, gv_non, gv_tup, gv_lst, gv_scr, gv_ins, keptAt_eq, kp_some, mi_own, mi_bor, mi_int, mi_bl, mi_str, mi_non, mi_tup, mi_lst, mi_scr, mi_ins, mvAt_eq, mv_some, mv_own, mv_bor, mv_int, mv_bl, mv_str, mv_non, mv_tup, mv_lst, mv_scr, mv_ins,
  fz_own, fz_l, fz_i, fzI, fz_bl, fz_str, fz_non, fzT, fz_lst, fz_scr, fz_ins, fz_set, fz_ty, fz_gl, b_int, i_add, u_neg, u_inv, c_lt, c_le, c_gt, c_ge, c_eqI, c_neI, c_eqB, c_isN, c_notN, t_bl, t_int, t_non, t_tup, t_lst, x_tup, x_lst, x_scr, s_lst, s_scr,
  l_len1, l_len2, l_len3, l_int, l_abs, l_tup, l_tup2, l_list, l_list2, l_max, l_min, l_isi, nil_out, out_int, out_bl, out_tup, out_lst, out_scr, out_ins, out_non, out_bor, nO, tB, tI, back_eq, put_none,
  List.map_cons, List.map_nil, List.length_cons, List.length_nil, List.replicate, List.getElem?_cons_zero, List.getElem?_cons_succ, List.append_nil, List.nil_append, List.cons_append, List.set_cons_zero, List.set_cons_succ, Option.map_some, Option.isSome_some, Option.isSome_none, if_true, if_false, ite_true, ite_false, Bool.false_eq_true, reduceCtorEq, Nat.reduceAdd, Nat.reduceSub] <;> try dsimp only [Dx.D.fz, Dx.MV.fz])
  rw [calO_eq (bag_d (bag_d bag_nil)) (ofmask' (n := j) hj va.pos va.le (powN_lt va.pos))]
  (simp -dsimp only [evB, evS, evE, evT, evL, evA, evA1, evI, evP, evC, asgG, asgL, stoD, bind_eq, it_tup, it_lst, Nat.reduceLT, sz_0, sz_1, sz_2, sz_3, sz_4, sz_5, sz_6, sz_7, sz_8, wipe_nil, wipe_cons, Nat.zero_lt_succ, Nat.not_lt_zero, decide_true, decide_false, lift_some, thenF_nx, thenF_ret, back_none', fin_ret, fin_nx, startN,
  getVar_eq, gv_own, gv_int, gv_bl, gv_str, gv_non, gv_tup, gv_lst, gv_scr, gv_ins, keptAt_eq, kp_some, mi_own, mi_bor, mi_int, mi_bl, mi_str, mi_non, mi_tup, mi_lst, mi_scr, mi_ins, mvAt_eq, mv_some, mv_own, mv_bor, mv_int, mv_bl, mv_str, mv_non, mv_tup, mv_lst, mv_scr, mv_ins,
  fz_own, fz_l, fz_i, fzI, fz_bl, fz_str, fz_non, fzT, fz_lst, fz_scr, fz_ins, fz_set, fz_ty, fz_gl, b_int, i_add, u_neg, u_inv, c_lt, c_le, c_gt, c_ge, c_eqI, c_neI, c_eqB, c_isN, c_notN, t_bl, t_int, t_non, t_tup, t_lst, x_tup, x_lst, x_scr, s_lst, s_scr,
  l_len1, l_len2, l_len3, l_int, l_abs, l_tup, l_tup2, l_list, l_list2, l_max, l_min, l_isi, nil_out, out_int, out_bl, out_tup, out_lst, out_scr, out_ins, out_non, out_bor, nO, tB, tI, back_eq, put_none,
  List.map_cons, List.map_nil, List.length_cons, List.length_nil, List.replicate, List.getElem?_cons_zero, List.getElem?_cons_succ, List.append_nil, List.nil_append, List.cons_append, List.set_cons_zero, List.set_cons_succ, Option.map_some, Option.isSome_some, Option.isSome_none, if_true, if_false, ite_true, ite_false, Bool.false_eq_true, reduceCtorEq, Nat.reduceAdd, Nat.reduceSub] <;> try dsimp only [Dx.D.fz, Dx.MV.fz])
end Lw

end
section -- Vb
set_option maxRecDepth 100000
set_option maxHeartbeats 2000000
namespace Lw
open PySem Ev Dx Mx
theorem tup0 : D.tup [.int 0] = .tup (natsD [0]) := rfl
theorem bits_pow0 {c A : Nat} : bitsL (powN c A 0) = [0] := bits1
theorem s_lfold {n c t : Nat} {ra : List Nat} (hn : 2 ≤ n) (va : Valid c ra) (hc : c ≤ 60) (ht : t ≤ 1000) : RT n (.f "_law_fold") [.int (c : Int), .tup (natsD ra), .int (t : Int)] = .ok (.tup (natsD (bitsL (powN c (maskN ra) t)))) [] := by
  obtain ⟨j, rfl, hj⟩ := pos_of hn
  rw [RT, run_of t_lfold rfl]
  (simp -dsimp only [evB, evS, evE, evT, evL, evA, evA1, evI, evP, evC, asgG, asgL, stoD, bind_eq, it_tup, it_lst, Nat.reduceLT, sz_0, sz_1, sz_2, sz_3, sz_4, sz_5, sz_6, sz_7, sz_8, wipe_nil, wipe_cons, Nat.zero_lt_succ, Nat.not_lt_zero, decide_true, decide_false, lift_some, thenF_nx, thenF_ret, back_none', fin_ret, fin_nx, startN,
  getVar_eq, gv_own, gv_int, gv_bl, gv_str, gv_non, gv_tup, gv_lst, gv_scr, gv_ins, keptAt_eq, kp_some, mi_own, mi_bor, mi_int, mi_bl, mi_str, mi_non, mi_tup, mi_lst, mi_scr, mi_ins, mvAt_eq, mv_some, mv_own, mv_bor, mv_int, mv_bl, mv_str, mv_non, mv_tup, mv_lst, mv_scr, mv_ins,
  fz_own, fz_l, fz_i, fzI, fz_bl, fz_str, fz_non, fzT, fz_lst, fz_scr, fz_ins, fz_set, fz_ty, fz_gl, b_int, i_add, u_neg, u_inv, c_lt, c_le, c_gt, c_ge, c_eqI, c_neI, c_eqB, c_isN, c_notN, t_bl, t_int, t_non, t_tup, t_lst, x_tup, x_lst, x_scr, s_lst, s_scr,
  l_len1, l_len2, l_len3, l_int, l_abs, l_tup, l_tup2, l_list, l_list2, l_max, l_min, l_isi, nil_out, out_int, out_bl, out_tup, out_lst, out_scr, out_ins, out_non, out_bor, nO, tB, tI, back_eq, put_none,
  List.map_cons, List.map_nil, List.length_cons, List.length_nil, List.replicate, List.getElem?_cons_zero, List.getElem?_cons_succ, List.append_nil, List.nil_append, List.cons_append, List.set_cons_zero, List.set_cons_succ, Option.map_some, Option.isSome_some, Option.isSome_none, if_true, if_false, ite_true, ite_false, Bool.false_eq_true, reduceCtorEq, Nat.reduceAdd, Nat.reduceSub, rng_1 (b := (t : Int)) (by omega), Int.toNat_natCast, rng_nats] <;> try dsimp only [Dx.D.fz, Dx.MV.fz])
  refine fin_run (fun k ρ => ∃ o, ρ = [some (.int (c : Int)), some (.tup (natsD ra)), some (.int (t : Int)), some (.tup (natsD (bitsL (powN c (maskN ra) k)))), o]) ⟨none, by rw [bits_pow0]; rfl⟩ (fun k x ρ hk ⟨o, hρ⟩ => ?_) (fun ρ' ⟨o, hρ⟩ => ?_)
  · subst hρ
    refine ⟨[some (.int (c : Int)), some (.tup (natsD ra)), some (.int (t : Int)), some (.tup (natsD (bitsL (powN c (maskN ra) (k + 1))))), some x], .inl ?_, _, rfl⟩
    (simp -dsimp only [evB, evS, evE, evT, evL, evA, evA1, evI, evP, evC, asgG, asgL, stoD, bind_eq, it_tup, it_lst, Nat.reduceLT, sz_0, sz_1, sz_2, sz_3, sz_4, sz_5, sz_6, sz_7, sz_8, wipe_nil, wipe_cons, Nat.zero_lt_succ, Nat.not_lt_zero, decide_true, decide_false, lift_some, thenF_nx, thenF_ret, back_none', fin_ret, fin_nx, startN,
  getVar_eq, gv_own, gv_int, gv_bl, gv_str, gv_non, gv_tup, gv_lst, gv_scr, gv_ins, keptAt_eq, kp_some, mi_own, mi_bor, mi_int, mi_bl, mi_str, mi_non, mi_tup, mi_lst, mi_scr, mi_ins, mvAt_eq, mv_some, mv_own, mv_bor, mv_int, mv_bl, mv_str, mv_non, mv_tup, mv_lst, mv_scr, mv_ins,
  fz_own, fz_l, fz_i, fzI, fz_bl, fz_str, fz_non, fzT, fz_lst, fz_scr, fz_ins, fz_set, fz_ty, fz_gl, b_int, i_add, u_neg, u_inv, c_lt, c_le, c_gt, c_ge, c_eqI, c_neI, c_eqB, c_isN, c_notN, t_bl, t_int, t_non, t_tup, t_lst, x_tup, x_lst, x_scr, s_lst, s_scr,
  l_len1, l_len2, l_len3, l_int, l_abs, l_tup, l_tup2, l_list, l_list2, l_max, l_min, l_isi, nil_out, out_int, out_bl, out_tup, out_lst, out_scr, out_ins, out_non, out_bor, nO, tB, tI, back_eq, put_none,
  List.map_cons, List.map_nil, List.length_cons, List.length_nil, List.replicate, List.getElem?_cons_zero, List.getElem?_cons_succ, List.append_nil, List.nil_append, List.cons_append, List.set_cons_zero, List.set_cons_succ, Option.map_some, Option.isSome_some, Option.isSome_none, if_true, if_false, ite_true, ite_false, Bool.false_eq_true, reduceCtorEq, Nat.reduceAdd, Nat.reduceSub] <;> try dsimp only [Dx.D.fz, Dx.MV.fz])
    rw [calO_eq (bag_d (bag_d (bag_d bag_nil))) (s_lsums (n := j) hj (valid_bits va.pos va.le (powN_lt va.pos)) va hc), maskN_bitsL]
    (simp -dsimp only [evB, evS, evE, evT, evL, evA, evA1, evI, evP, evC, asgG, asgL, stoD, bind_eq, it_tup, it_lst, Nat.reduceLT, sz_0, sz_1, sz_2, sz_3, sz_4, sz_5, sz_6, sz_7, sz_8, wipe_nil, wipe_cons, Nat.zero_lt_succ, Nat.not_lt_zero, decide_true, decide_false, lift_some, thenF_nx, thenF_ret, back_none', fin_ret, fin_nx, startN,
  getVar_eq, gv_own, gv_int, gv_bl, gv_str, gv_non, gv_tup, gv_lst, gv_scr, gv_ins, keptAt_eq, kp_some, mi_own, mi_bor, mi_int, mi_bl, mi_str, mi_non, mi_tup, mi_lst, mi_scr, mi_ins, mvAt_eq, mv_some, mv_own, mv_bor, mv_int, mv_bl, mv_str, mv_non, mv_tup, mv_lst, mv_scr, mv_ins,
  fz_own, fz_l, fz_i, fzI, fz_bl, fz_str, fz_non, fzT, fz_lst, fz_scr, fz_ins, fz_set, fz_ty, fz_gl, b_int, i_add, u_neg, u_inv, c_lt, c_le, c_gt, c_ge, c_eqI, c_neI, c_eqB, c_isN, c_notN, t_bl, t_int, t_non, t_tup, t_lst, x_tup, x_lst, x_scr, s_lst, s_scr,
  l_len1, l_len2, l_len3, l_int, l_abs, l_tup, l_tup2, l_list, l_list2, l_max, l_min, l_isi, nil_out, out_int, out_bl, out_tup, out_lst, out_scr, out_ins, out_non, out_bor, nO, tB, tI, back_eq, put_none,
  List.map_cons, List.map_nil, List.length_cons, List.length_nil, List.replicate, List.getElem?_cons_zero, List.getElem?_cons_succ, List.append_nil, List.nil_append, List.cons_append, List.set_cons_zero, List.set_cons_succ, Option.map_some, Option.isSome_some, Option.isSome_none, if_true, if_false, ite_true, ite_false, Bool.false_eq_true, reduceCtorEq, Nat.reduceAdd, Nat.reduceSub] <;> try dsimp only [Dx.D.fz, Dx.MV.fz])
    rfl
  · subst hρ
    (simp -dsimp only [evB, evS, evE, evT, evL, evA, evA1, evI, evP, evC, asgG, asgL, stoD, bind_eq, it_tup, it_lst, Nat.reduceLT, sz_0, sz_1, sz_2, sz_3, sz_4, sz_5, sz_6, sz_7, sz_8, wipe_nil, wipe_cons, Nat.zero_lt_succ, Nat.not_lt_zero, decide_true, decide_false, lift_some, thenF_nx, thenF_ret, back_none', fin_ret, fin_nx, startN,
  getVar_eq, gv_own, gv_int, gv_bl, gv_str, gv_non, gv_tup, gv_lst, gv_scr, gv_ins, keptAt_eq, kp_some, mi_own, mi_bor, mi_int, mi_bl, mi_str, mi_non, mi_tup, mi_lst, mi_scr, mi_ins, mvAt_eq, mv_some, mv_own, mv_bor, mv_int, mv_bl, mv_str, mv_non, mv_tup, mv_lst, mv_scr, mv_ins,
  fz_own, fz_l, fz_i, fzI, fz_bl, fz_str, fz_non, fzT, fz_lst, fz_scr, fz_ins, fz_set, fz_ty, fz_gl, b_int, i_add, u_neg, u_inv, c_lt, c_le, c_gt, c_ge, c_eqI, c_neI, c_eqB, c_isN, c_notN, t_bl, t_int, t_non, t_tup, t_lst, x_tup, x_lst, x_scr, s_lst, s_scr,
  l_len1, l_len2, l_len3, l_int, l_abs, l_tup, l_tup2, l_list, l_list2, l_max, l_min, l_isi, nil_out, out_int, out_bl, out_tup, out_lst, out_scr, out_ins, out_non, out_bor, nO, tB, tI, back_eq, put_none,
  List.map_cons, List.map_nil, List.length_cons, List.length_nil, List.replicate, List.getElem?_cons_zero, List.getElem?_cons_succ, List.append_nil, List.nil_append, List.cons_append, List.set_cons_zero, List.set_cons_succ, Option.map_some, Option.isSome_some, Option.isSome_none, if_true, if_false, ite_true, ite_false, Bool.false_eq_true, reduceCtorEq, Nat.reduceAdd, Nat.reduceSub] <;> try dsimp only [Dx.D.fz, Dx.MV.fz])
    rw [natsD_len, List.length_range]
theorem mulOk_r {i j : Int} (h : -(2 ^ 64) < j ∧ j < 2 ^ 64) : mulOk i j = true := by
  unfold mulOk
  rw [decide_eq_true h, Bool.or_true]
theorem s_far {n : Nat} {p : Int × Int} (hn : 2 ≤ n) (hp : Pu p) : ∃ (f : Nat) (q : Int × Int), RT n (.f "_law_far") [.bor (purse p)] = .ok (.int (f : Int)) [purse q] ∧ f < 10 ^ 29 ∧ Pu q := by
  obtain ⟨j, rfl, hj⟩ := pos_of hn
  rw [RT, run_of t_far rfl]
  obtain ⟨d, q, e, ⟨d1, d2⟩, hq⟩ := s_draw (n := j) (many := 29) hj hp (by decide) (by decide)
  obtain ⟨m', hm'⟩ : ∃ m' : Nat, (m' : Int) = 1 + d := ⟨(1 + d).toNat, by omega⟩
  (simp -dsimp only [evB, evS, evE, evT, evL, evA, evA1, evI, evP, evC, asgG, asgL, stoD, bind_eq, it_tup, it_lst, Nat.reduceLT, sz_0, sz_1, sz_2, sz_3, sz_4, sz_5, sz_6, sz_7, sz_8, wipe_nil, wipe_cons, Nat.zero_lt_succ, Nat.not_lt_zero, decide_true, decide_false, lift_some, thenF_nx, thenF_ret, back_none', fin_ret, fin_nx, startN,
  getVar_eq, gv_own, gv_int, gv_bl, gv_str, gv_non, gv_tup, gv_lst, gv_scr, gv_ins, keptAt_eq, kp_some, mi_own, mi_bor, mi_int, mi_bl, mi_str, mi_non, mi_tup, mi_lst, mi_scr, mi_ins, mvAt_eq, mv_some, mv_own, mv_bor, mv_int, mv_bl, mv_str, mv_non, mv_tup, mv_lst, mv_scr, mv_ins,
  fz_own, fz_l, fz_i, fzI, fz_bl, fz_str, fz_non, fzT, fz_lst, fz_scr, fz_ins, fz_set, fz_ty, fz_gl, b_int, i_add, u_neg, u_inv, c_lt, c_le, c_gt, c_ge, c_eqI, c_neI, c_eqB, c_isN, c_notN, t_bl, t_int, t_non, t_tup, t_lst, x_tup, x_lst, x_scr, s_lst, s_scr,
  l_len1, l_len2, l_len3, l_int, l_abs, l_tup, l_tup2, l_list, l_list2, l_max, l_min, l_isi, nil_out, out_int, out_bl, out_tup, out_lst, out_scr, out_ins, out_non, out_bor, nO, tB, tI, back_eq, put_none,
  List.map_cons, List.map_nil, List.length_cons, List.length_nil, List.replicate, List.getElem?_cons_zero, List.getElem?_cons_succ, List.append_nil, List.nil_append, List.cons_append, List.set_cons_zero, List.set_cons_succ, Option.map_some, Option.isSome_some, Option.isSome_none, if_true, if_false, ite_true, ite_false, Bool.false_eq_true, reduceCtorEq, Nat.reduceAdd, Nat.reduceSub] <;> try dsimp only [Dx.D.fz, Dx.MV.fz])
  rw [calO_eq (bag_len mv0_bor (bag_d bag_nil)) e]
  (simp -dsimp only [evB, evS, evE, evT, evL, evA, evA1, evI, evP, evC, asgG, asgL, stoD, bind_eq, it_tup, it_lst, Nat.reduceLT, sz_0, sz_1, sz_2, sz_3, sz_4, sz_5, sz_6, sz_7, sz_8, wipe_nil, wipe_cons, Nat.zero_lt_succ, Nat.not_lt_zero, decide_true, decide_false, lift_some, thenF_nx, thenF_ret, back_none', fin_ret, fin_nx, startN,
  getVar_eq, gv_own, gv_int, gv_bl, gv_str, gv_non, gv_tup, gv_lst, gv_scr, gv_ins, keptAt_eq, kp_some, mi_own, mi_bor, mi_int, mi_bl, mi_str, mi_non, mi_tup, mi_lst, mi_scr, mi_ins, mvAt_eq, mv_some, mv_own, mv_bor, mv_int, mv_bl, mv_str, mv_non, mv_tup, mv_lst, mv_scr, mv_ins,
  fz_own, fz_l, fz_i, fzI, fz_bl, fz_str, fz_non, fzT, fz_lst, fz_scr, fz_ins, fz_set, fz_ty, fz_gl, b_int, i_add, u_neg, u_inv, c_lt, c_le, c_gt, c_ge, c_eqI, c_neI, c_eqB, c_isN, c_notN, t_bl, t_int, t_non, t_tup, t_lst, x_tup, x_lst, x_scr, s_lst, s_scr,
  l_len1, l_len2, l_len3, l_int, l_abs, l_tup, l_tup2, l_list, l_list2, l_max, l_min, l_isi, nil_out, out_int, out_bl, out_tup, out_lst, out_scr, out_ins, out_non, out_bor, nO, tB, tI, back_eq, put_none,
  List.map_cons, List.map_nil, List.length_cons, List.length_nil, List.replicate, List.getElem?_cons_zero, List.getElem?_cons_succ, List.append_nil, List.nil_append, List.cons_append, List.set_cons_zero, List.set_cons_succ, Option.map_some, Option.isSome_some, Option.isSome_none, if_true, if_false, ite_true, ite_false, Bool.false_eq_true, reduceCtorEq, Nat.reduceAdd, Nat.reduceSub, po_bor] <;> try dsimp only [Dx.D.fz, Dx.MV.fz])
  rw [← hm']
  (simp -dsimp only [evB, evS, evE, evT, evL, evA, evA1, evI, evP, evC, asgG, asgL, stoD, bind_eq, it_tup, it_lst, Nat.reduceLT, sz_0, sz_1, sz_2, sz_3, sz_4, sz_5, sz_6, sz_7, sz_8, wipe_nil, wipe_cons, Nat.zero_lt_succ, Nat.not_lt_zero, decide_true, decide_false, lift_some, thenF_nx, thenF_ret, back_none', fin_ret, fin_nx, startN,
  getVar_eq, gv_own, gv_int, gv_bl, gv_str, gv_non, gv_tup, gv_lst, gv_scr, gv_ins, keptAt_eq, kp_some, mi_own, mi_bor, mi_int, mi_bl, mi_str, mi_non, mi_tup, mi_lst, mi_scr, mi_ins, mvAt_eq, mv_some, mv_own, mv_bor, mv_int, mv_bl, mv_str, mv_non, mv_tup, mv_lst, mv_scr, mv_ins,
  fz_own, fz_l, fz_i, fzI, fz_bl, fz_str, fz_non, fzT, fz_lst, fz_scr, fz_ins, fz_set, fz_ty, fz_gl, b_int, i_add, u_neg, u_inv, c_lt, c_le, c_gt, c_ge, c_eqI, c_neI, c_eqB, c_isN, c_notN, t_bl, t_int, t_non, t_tup, t_lst, x_tup, x_lst, x_scr, s_lst, s_scr,
  l_len1, l_len2, l_len3, l_int, l_abs, l_tup, l_tup2, l_list, l_list2, l_max, l_min, l_isi, nil_out, out_int, out_bl, out_tup, out_lst, out_scr, out_ins, out_non, out_bor, nO, tB, tI, back_eq, put_none,
  List.map_cons, List.map_nil, List.length_cons, List.length_nil, List.replicate, List.getElem?_cons_zero, List.getElem?_cons_succ, List.append_nil, List.nil_append, List.cons_append, List.set_cons_zero, List.set_cons_succ, Option.map_some, Option.isSome_some, Option.isSome_none, if_true, if_false, ite_true, ite_false, Bool.false_eq_true, reduceCtorEq, Nat.reduceAdd, Nat.reduceSub, rng_1 (b := (m' : Int)) (by omega), Int.toNat_natCast, rng_nats] <;> try dsimp only [Dx.D.fz, Dx.MV.fz])
  generalize hX : forD _ _ _ = X
  have key := run_ex hX (fun k ρ => ∃ (f : Nat) (q : Int × Int) (o : Option D), ρ = [some (.bor (purse q)), some (.int (f : Int)), o] ∧ Pu q ∧ f < 10 ^ k) ⟨0, q, none, rfl, hq, by decide⟩ (by
    rintro k x ρ hk ⟨f, q1, o, rfl, hq1, hf⟩
    obtain ⟨d3, q2, e2, ⟨d4, d5⟩, hq2⟩ := s_draw (n := j) (many := 10) hj hq1 (by decide) (by decide)
    refine ⟨[some (.bor (purse q2)), some (.int ((f * 10 + d3.toNat : Nat) : Int)), some x], .inl ?_, _, q2, _, rfl, hq2, ?_⟩
    · (simp -dsimp only [evB, evS, evE, evT, evL, evA, evA1, evI, evP, evC, asgG, asgL, stoD, bind_eq, it_tup, it_lst, Nat.reduceLT, sz_0, sz_1, sz_2, sz_3, sz_4, sz_5, sz_6, sz_7, sz_8, wipe_nil, wipe_cons, Nat.zero_lt_succ, Nat.not_lt_zero, decide_true, decide_false, lift_some, thenF_nx, thenF_ret, back_none', fin_ret, fin_nx, startN,
  getVar_eq, gv_own, gv_int, gv_bl, gv_str, gv_non, gv_tup, gv_lst, gv_scr, gv_ins, keptAt_eq, kp_some, mi_own, mi_bor, mi_int, mi_bl, mi_str, mi_non, mi_tup, mi_lst, mi_scr, mi_ins, mvAt_eq, mv_some, mv_own, mv_bor, mv_int, mv_bl, mv_str, mv_non, mv_tup, mv_lst, mv_scr, mv_ins,
  fz_own, fz_l, fz_i, fzI, fz_bl, fz_str, fz_non, fzT, fz_lst, fz_scr, fz_ins, fz_set, fz_ty, fz_gl, b_int, i_add, u_neg, u_inv, c_lt, c_le, c_gt, c_ge, c_eqI, c_neI, c_eqB, c_isN, c_notN, t_bl, t_int, t_non, t_tup, t_lst, x_tup, x_lst, x_scr, s_lst, s_scr,
  l_len1, l_len2, l_len3, l_int, l_abs, l_tup, l_tup2, l_list, l_list2, l_max, l_min, l_isi, nil_out, out_int, out_bl, out_tup, out_lst, out_scr, out_ins, out_non, out_bor, nO, tB, tI, back_eq, put_none,
  List.map_cons, List.map_nil, List.length_cons, List.length_nil, List.replicate, List.getElem?_cons_zero, List.getElem?_cons_succ, List.append_nil, List.nil_append, List.cons_append, List.set_cons_zero, List.set_cons_succ, Option.map_some, Option.isSome_some, Option.isSome_none, if_true, if_false, ite_true, ite_false, Bool.false_eq_true, reduceCtorEq, Nat.reduceAdd, Nat.reduceSub, i_mul (a := (f : Int)) (b := 10) (mulOk_r (by decide))] <;> try dsimp only [Dx.D.fz, Dx.MV.fz])
      rw [calO_eq (bag_len mv0_bor (bag_d bag_nil)) e2]
      (simp -dsimp only [evB, evS, evE, evT, evL, evA, evA1, evI, evP, evC, asgG, asgL, stoD, bind_eq, it_tup, it_lst, Nat.reduceLT, sz_0, sz_1, sz_2, sz_3, sz_4, sz_5, sz_6, sz_7, sz_8, wipe_nil, wipe_cons, Nat.zero_lt_succ, Nat.not_lt_zero, decide_true, decide_false, lift_some, thenF_nx, thenF_ret, back_none', fin_ret, fin_nx, startN,
  getVar_eq, gv_own, gv_int, gv_bl, gv_str, gv_non, gv_tup, gv_lst, gv_scr, gv_ins, keptAt_eq, kp_some, mi_own, mi_bor, mi_int, mi_bl, mi_str, mi_non, mi_tup, mi_lst, mi_scr, mi_ins, mvAt_eq, mv_some, mv_own, mv_bor, mv_int, mv_bl, mv_str, mv_non, mv_tup, mv_lst, mv_scr, mv_ins,
  fz_own, fz_l, fz_i, fzI, fz_bl, fz_str, fz_non, fzT, fz_lst, fz_scr, fz_ins, fz_set, fz_ty, fz_gl, b_int, i_add, u_neg, u_inv, c_lt, c_le, c_gt, c_ge, c_eqI, c_neI, c_eqB, c_isN, c_notN, t_bl, t_int, t_non, t_tup, t_lst, x_tup, x_lst, x_scr, s_lst, s_scr,
  l_len1, l_len2, l_len3, l_int, l_abs, l_tup, l_tup2, l_list, l_list2, l_max, l_min, l_isi, nil_out, out_int, out_bl, out_tup, out_lst, out_scr, out_ins, out_non, out_bor, nO, tB, tI, back_eq, put_none,
  List.map_cons, List.map_nil, List.length_cons, List.length_nil, List.replicate, List.getElem?_cons_zero, List.getElem?_cons_succ, List.append_nil, List.nil_append, List.cons_append, List.set_cons_zero, List.set_cons_succ, Option.map_some, Option.isSome_some, Option.isSome_none, if_true, if_false, ite_true, ite_false, Bool.false_eq_true, reduceCtorEq, Nat.reduceAdd, Nat.reduceSub, po_bor] <;> try dsimp only [Dx.D.fz, Dx.MV.fz])
      rw [show (f : Int) * 10 + d3 = ((f * 10 + d3.toNat : Nat) : Int) by omega]
    · rw [Nat.pow_succ]
      omega)
  obtain ⟨ρ', rfl, f, q3, o, rfl, hq3, hf⟩ := key
  (simp -dsimp only [evB, evS, evE, evT, evL, evA, evA1, evI, evP, evC, asgG, asgL, stoD, bind_eq, it_tup, it_lst, Nat.reduceLT, sz_0, sz_1, sz_2, sz_3, sz_4, sz_5, sz_6, sz_7, sz_8, wipe_nil, wipe_cons, Nat.zero_lt_succ, Nat.not_lt_zero, decide_true, decide_false, lift_some, thenF_nx, thenF_ret, back_none', fin_ret, fin_nx, startN,
  getVar_eq, gv_own, gv_int, gv_bl, gv_str, gv_non, gv_tup, gv_lst, gv_scr, gv_ins, keptAt_eq, kp_some, mi_own, mi_bor, mi_int, mi_bl, mi_str, mi_non, mi_tup, mi_lst, mi_scr, mi_ins, mvAt_eq, mv_some, mv_own, mv_bor, mv_int, mv_bl, mv_str, mv_non, mv_tup, mv_lst, mv_scr, mv_ins,
  fz_own, fz_l, fz_i, fzI, fz_bl, fz_str, fz_non, fzT, fz_lst, fz_scr, fz_ins, fz_set, fz_ty, fz_gl, b_int, i_add, u_neg, u_inv, c_lt, c_le, c_gt, c_ge, c_eqI, c_neI, c_eqB, c_isN, c_notN, t_bl, t_int, t_non, t_tup, t_lst, x_tup, x_lst, x_scr, s_lst, s_scr,
  l_len1, l_len2, l_len3, l_int, l_abs, l_tup, l_tup2, l_list, l_list2, l_max, l_min, l_isi, nil_out, out_int, out_bl, out_tup, out_lst, out_scr, out_ins, out_non, out_bor, nO, tB, tI, back_eq, put_none,
  List.map_cons, List.map_nil, List.length_cons, List.length_nil, List.replicate, List.getElem?_cons_zero, List.getElem?_cons_succ, List.append_nil, List.nil_append, List.cons_append, List.set_cons_zero, List.set_cons_succ, Option.map_some, Option.isSome_some, Option.isSome_none, if_true, if_false, ite_true, ite_false, Bool.false_eq_true, reduceCtorEq, Nat.reduceAdd, Nat.reduceSub] <;> try dsimp only [Dx.D.fz, Dx.MV.fz])
  refine ⟨f, q3, rfl, ?_, hq3⟩
  rw [natsD_len, List.length_range] at hf
  exact Nat.lt_of_lt_of_le hf (Nat.pow_le_pow_right (by decide) (by omega))
theorem c_neT {C : Cal} {ρ : En} (a b : List Nat) : cmpO C .NotEq (.tup (natsD a)) (.tup (natsD b)) ρ = .ok (!decide (a = b)) ρ := by
  have e : cmpO C .NotEq (.tup (natsD a)) (.tup (natsD b)) ρ = lift ((eqD (.tup (natsD a)) (.tup (natsD b))).map (!·)) ρ := rfl
  rw [e, eq_tups]; rfl
theorem mH_fold {n c t : Nat} {ra : List Nat} {ρ : En} (hn : 7 ≤ n) (va : Valid c ra) (ht : t ≤ 1000000000000000000000000000000) : metO (RT n) (hoursD c ra) "fold" [.int (t : Int)] ρ = .ok (ownH c (bitsL (powN c (maskN ra) t))) ρ := by
  have e : metO (RT n) (hoursD c ra) "fold" [.int (t : Int)] ρ = back ρ none (RT n (.m "Hours" "fold") [hoursD c ra, .int (t : Int)]) := rfl
  rw [e, s_fold hn va ht]; rfl
end Lw

end
section -- Vc
set_option maxRecDepth 100000
set_option maxHeartbeats 4000000
namespace Lw
open PySem Ev Dx Mx
def In8 (k : Nat) (ρ : En) : Prop := ∃ (q : Int × Int) (o1 o2 o3 o4 o5 o6 o7 o8 o9 : Option D), ρ = [some (.bor (purse q)), o1, o2, o3, o4, o5, o6, o7, o8, o9] ∧ Pu q ∧
  (0 < k → ∃ (c : Nat) (ra : List Nat), Valid c ra ∧ o2 = some (.int (c : Int)) ∧ o3 = some (.tup (natsD ra)) ∧ o4 = some (hoursD c ra))
theorem p30 : intOp .Pow 10 30 = some ((1000000000000000000000000000000 : Nat) : Int) := by rw [i_pow (by decide)]; rfl
theorem s_right {n : Nat} {p : Int × Int} (hn : 9 ≤ n) (hp : Pu p) : ∃ o, RT n (.f "_law_right") [.bor (purse p)] = .ok (.bl true) o := by
  obtain ⟨j, rfl, hj⟩ := pos_of hn
  have j7 : 7 ≤ j := by omega
  rw [RT, run_of t_right rfl]
  (simp -dsimp only [evB, evS, evE, evT, evL, evA, evA1, evI, evP, evC, asgG, asgL, stoD, bind_eq, it_tup, it_lst, Nat.reduceLT, sz_0, sz_1, sz_2, sz_3, sz_4, sz_5, sz_6, sz_7, sz_8, wipe_nil, wipe_cons, Nat.zero_lt_succ, Nat.not_lt_zero, decide_true, decide_false, lift_some, thenF_nx, thenF_ret, back_none', fin_ret, fin_nx, startN,
  getVar_eq, gv_own, gv_int, gv_bl, gv_str, gv_non, gv_tup, gv_lst, gv_scr, gv_ins, keptAt_eq, kp_some, mi_own, mi_bor, mi_int, mi_bl, mi_str, mi_non, mi_tup, mi_lst, mi_scr, mi_ins, mvAt_eq, mv_some, mv_own, mv_bor, mv_int, mv_bl, mv_str, mv_non, mv_tup, mv_lst, mv_scr, mv_ins,
  fz_own, fz_l, fz_i, fzI, fz_bl, fz_str, fz_non, fzT, fz_lst, fz_scr, fz_ins, fz_set, fz_ty, fz_gl, b_int, i_add, u_neg, u_inv, c_lt, c_le, c_gt, c_ge, c_eqI, c_neI, c_eqB, c_isN, c_notN, t_bl, t_int, t_non, t_tup, t_lst, x_tup, x_lst, x_scr, s_lst, s_scr,
  l_len1, l_len2, l_len3, l_int, l_abs, l_tup, l_tup2, l_list, l_list2, l_max, l_min, l_isi, nil_out, out_int, out_bl, out_tup, out_lst, out_scr, out_ins, out_non, out_bor, nO, tB, tI, back_eq, put_none,
  List.map_cons, List.map_nil, List.length_cons, List.length_nil, List.replicate, List.getElem?_cons_zero, List.getElem?_cons_succ, List.append_nil, List.nil_append, List.cons_append, List.set_cons_zero, List.set_cons_succ, Option.map_some, Option.isSome_some, Option.isSome_none, if_true, if_false, ite_true, ite_false, Bool.false_eq_true, reduceCtorEq, Nat.reduceAdd, Nat.reduceSub, rng_1 (b := 3) (by decide)] <;> try dsimp only [Dx.D.fz, Dx.MV.fz])
  generalize hX : forD _ _ _ = X
  have key := run_ex hX In8 ⟨p, none, none, none, none, none, none, none, none, none, rfl, hp, fun h => absurd h (by decide)⟩ (by
    clear hX
    rintro k x ρ hk ⟨q0, o1, o2, o3, o4, o5, o6, o7, o8, o9, rfl, hq0, _⟩
    obtain ⟨d1, q1, e1, b1, hq1⟩ := s_draw (n := j) (many := 3) (by omega) hq0 (by decide) (by decide)
    obtain ⟨M, hM, hM'⟩ := at_3 (a := 8) (b := 20) (c := 40) b1
    obtain ⟨d2, q2, e2, b2, hq2⟩ := s_draw (n := j) (many := M) (by omega) hq1 (by omega) (by omega)
    obtain ⟨c, hc⟩ : ∃ c : Nat, (c : Int) = 1 + d2 := ⟨(1 + d2).toNat, by omega⟩
    have c1 : 1 ≤ c := by omega
    have c2 : c ≤ 40 := by omega
    obtain ⟨ra, q3, e3, va, hq3⟩ := s_some (n := j) (many := c) (by omega) hq2 c1 (by omega)
    obtain ⟨far, q4, e4, hfar, hq4⟩ := s_far (n := j) (by omega) hq3
    obtain ⟨nr, q5, e5, b5, hq5⟩ := s_draw (n := j) (many := 9) (by omega) hq4 (by decide) (by decide)
    obtain ⟨near, rfl⟩ := Int.eq_ofNat_of_zero_le b5.1
    suffices h : ∃ ρ', _ = Out.ok Ev.Flow.nx ρ' ∧ In8 (k + 1) ρ' from by
      obtain ⟨ρ', h1, h2⟩ := h
      exact ⟨ρ', .inl h1, h2⟩
    (simp -dsimp only [evB, evS, evE, evT, evL, evA, evA1, evI, evP, evC, asgG, asgL, stoD, bind_eq, it_tup, it_lst, Nat.reduceLT, sz_0, sz_1, sz_2, sz_3, sz_4, sz_5, sz_6, sz_7, sz_8, wipe_nil, wipe_cons, Nat.zero_lt_succ, Nat.not_lt_zero, decide_true, decide_false, lift_some, thenF_nx, thenF_ret, back_none', fin_ret, fin_nx, startN,
  getVar_eq, gv_own, gv_int, gv_bl, gv_str, gv_non, gv_tup, gv_lst, gv_scr, gv_ins, keptAt_eq, kp_some, mi_own, mi_bor, mi_int, mi_bl, mi_str, mi_non, mi_tup, mi_lst, mi_scr, mi_ins, mvAt_eq, mv_some, mv_own, mv_bor, mv_int, mv_bl, mv_str, mv_non, mv_tup, mv_lst, mv_scr, mv_ins,
  fz_own, fz_l, fz_i, fzI, fz_bl, fz_str, fz_non, fzT, fz_lst, fz_scr, fz_ins, fz_set, fz_ty, fz_gl, b_int, i_add, u_neg, u_inv, c_lt, c_le, c_gt, c_ge, c_eqI, c_neI, c_eqB, c_isN, c_notN, t_bl, t_int, t_non, t_tup, t_lst, x_tup, x_lst, x_scr, s_lst, s_scr,
  l_len1, l_len2, l_len3, l_int, l_abs, l_tup, l_tup2, l_list, l_list2, l_max, l_min, l_isi, nil_out, out_int, out_bl, out_tup, out_lst, out_scr, out_ins, out_non, out_bor, nO, tB, tI, back_eq, put_none,
  List.map_cons, List.map_nil, List.length_cons, List.length_nil, List.replicate, List.getElem?_cons_zero, List.getElem?_cons_succ, List.append_nil, List.nil_append, List.cons_append, List.set_cons_zero, List.set_cons_succ, Option.map_some, Option.isSome_some, Option.isSome_none, if_true, if_false, ite_true, ite_false, Bool.false_eq_true, reduceCtorEq, Nat.reduceAdd, Nat.reduceSub] <;> try dsimp only [Dx.D.fz, Dx.MV.fz])
    rw [calO_eq (bag_len mv0_bor (bag_d bag_nil)) e1]
    (simp -dsimp only [evB, evS, evE, evT, evL, evA, evA1, evI, evP, evC, asgG, asgL, stoD, bind_eq, it_tup, it_lst, Nat.reduceLT, sz_0, sz_1, sz_2, sz_3, sz_4, sz_5, sz_6, sz_7, sz_8, wipe_nil, wipe_cons, Nat.zero_lt_succ, Nat.not_lt_zero, decide_true, decide_false, lift_some, thenF_nx, thenF_ret, back_none', fin_ret, fin_nx, startN,
  getVar_eq, gv_own, gv_int, gv_bl, gv_str, gv_non, gv_tup, gv_lst, gv_scr, gv_ins, keptAt_eq, kp_some, mi_own, mi_bor, mi_int, mi_bl, mi_str, mi_non, mi_tup, mi_lst, mi_scr, mi_ins, mvAt_eq, mv_some, mv_own, mv_bor, mv_int, mv_bl, mv_str, mv_non, mv_tup, mv_lst, mv_scr, mv_ins,
  fz_own, fz_l, fz_i, fzI, fz_bl, fz_str, fz_non, fzT, fz_lst, fz_scr, fz_ins, fz_set, fz_ty, fz_gl, b_int, i_add, u_neg, u_inv, c_lt, c_le, c_gt, c_ge, c_eqI, c_neI, c_eqB, c_isN, c_notN, t_bl, t_int, t_non, t_tup, t_lst, x_tup, x_lst, x_scr, s_lst, s_scr,
  l_len1, l_len2, l_len3, l_int, l_abs, l_tup, l_tup2, l_list, l_list2, l_max, l_min, l_isi, nil_out, out_int, out_bl, out_tup, out_lst, out_scr, out_ins, out_non, out_bor, nO, tB, tI, back_eq, put_none,
  List.map_cons, List.map_nil, List.length_cons, List.length_nil, List.replicate, List.getElem?_cons_zero, List.getElem?_cons_succ, List.append_nil, List.nil_append, List.cons_append, List.set_cons_zero, List.set_cons_succ, Option.map_some, Option.isSome_some, Option.isSome_none, if_true, if_false, ite_true, ite_false, Bool.false_eq_true, reduceCtorEq, Nat.reduceAdd, Nat.reduceSub, po_bor, hM] <;> try dsimp only [Dx.D.fz, Dx.MV.fz])
    rw [calO_eq (bag_len mv0_bor (bag_d bag_nil)) e2]
    (simp -dsimp only [evB, evS, evE, evT, evL, evA, evA1, evI, evP, evC, asgG, asgL, stoD, bind_eq, it_tup, it_lst, Nat.reduceLT, sz_0, sz_1, sz_2, sz_3, sz_4, sz_5, sz_6, sz_7, sz_8, wipe_nil, wipe_cons, Nat.zero_lt_succ, Nat.not_lt_zero, decide_true, decide_false, lift_some, thenF_nx, thenF_ret, back_none', fin_ret, fin_nx, startN,
  getVar_eq, gv_own, gv_int, gv_bl, gv_str, gv_non, gv_tup, gv_lst, gv_scr, gv_ins, keptAt_eq, kp_some, mi_own, mi_bor, mi_int, mi_bl, mi_str, mi_non, mi_tup, mi_lst, mi_scr, mi_ins, mvAt_eq, mv_some, mv_own, mv_bor, mv_int, mv_bl, mv_str, mv_non, mv_tup, mv_lst, mv_scr, mv_ins,
  fz_own, fz_l, fz_i, fzI, fz_bl, fz_str, fz_non, fzT, fz_lst, fz_scr, fz_ins, fz_set, fz_ty, fz_gl, b_int, i_add, u_neg, u_inv, c_lt, c_le, c_gt, c_ge, c_eqI, c_neI, c_eqB, c_isN, c_notN, t_bl, t_int, t_non, t_tup, t_lst, x_tup, x_lst, x_scr, s_lst, s_scr,
  l_len1, l_len2, l_len3, l_int, l_abs, l_tup, l_tup2, l_list, l_list2, l_max, l_min, l_isi, nil_out, out_int, out_bl, out_tup, out_lst, out_scr, out_ins, out_non, out_bor, nO, tB, tI, back_eq, put_none,
  List.map_cons, List.map_nil, List.length_cons, List.length_nil, List.replicate, List.getElem?_cons_zero, List.getElem?_cons_succ, List.append_nil, List.nil_append, List.cons_append, List.set_cons_zero, List.set_cons_succ, Option.map_some, Option.isSome_some, Option.isSome_none, if_true, if_false, ite_true, ite_false, Bool.false_eq_true, reduceCtorEq, Nat.reduceAdd, Nat.reduceSub, po_bor] <;> try dsimp only [Dx.D.fz, Dx.MV.fz])
    rw [← hc, calO_eq (bag_len mv0_bor (bag_d bag_nil)) e3]
    (simp -dsimp only [evB, evS, evE, evT, evL, evA, evA1, evI, evP, evC, asgG, asgL, stoD, bind_eq, it_tup, it_lst, Nat.reduceLT, sz_0, sz_1, sz_2, sz_3, sz_4, sz_5, sz_6, sz_7, sz_8, wipe_nil, wipe_cons, Nat.zero_lt_succ, Nat.not_lt_zero, decide_true, decide_false, lift_some, thenF_nx, thenF_ret, back_none', fin_ret, fin_nx, startN,
  getVar_eq, gv_own, gv_int, gv_bl, gv_str, gv_non, gv_tup, gv_lst, gv_scr, gv_ins, keptAt_eq, kp_some, mi_own, mi_bor, mi_int, mi_bl, mi_str, mi_non, mi_tup, mi_lst, mi_scr, mi_ins, mvAt_eq, mv_some, mv_own, mv_bor, mv_int, mv_bl, mv_str, mv_non, mv_tup, mv_lst, mv_scr, mv_ins,
  fz_own, fz_l, fz_i, fzI, fz_bl, fz_str, fz_non, fzT, fz_lst, fz_scr, fz_ins, fz_set, fz_ty, fz_gl, b_int, i_add, u_neg, u_inv, c_lt, c_le, c_gt, c_ge, c_eqI, c_neI, c_eqB, c_isN, c_notN, t_bl, t_int, t_non, t_tup, t_lst, x_tup, x_lst, x_scr, s_lst, s_scr,
  l_len1, l_len2, l_len3, l_int, l_abs, l_tup, l_tup2, l_list, l_list2, l_max, l_min, l_isi, nil_out, out_int, out_bl, out_tup, out_lst, out_scr, out_ins, out_non, out_bor, nO, tB, tI, back_eq, put_none,
  List.map_cons, List.map_nil, List.length_cons, List.length_nil, List.replicate, List.getElem?_cons_zero, List.getElem?_cons_succ, List.append_nil, List.nil_append, List.cons_append, List.set_cons_zero, List.set_cons_succ, Option.map_some, Option.isSome_some, Option.isSome_none, if_true, if_false, ite_true, ite_false, Bool.false_eq_true, reduceCtorEq, Nat.reduceAdd, Nat.reduceSub, po_bor] <;> try dsimp only [Dx.D.fz, Dx.MV.fz])
    rw [mak_hours (by omega) va]
    (simp -dsimp only [evB, evS, evE, evT, evL, evA, evA1, evI, evP, evC, asgG, asgL, stoD, bind_eq, it_tup, it_lst, Nat.reduceLT, sz_0, sz_1, sz_2, sz_3, sz_4, sz_5, sz_6, sz_7, sz_8, wipe_nil, wipe_cons, Nat.zero_lt_succ, Nat.not_lt_zero, decide_true, decide_false, lift_some, thenF_nx, thenF_ret, back_none', fin_ret, fin_nx, startN,
  getVar_eq, gv_own, gv_int, gv_bl, gv_str, gv_non, gv_tup, gv_lst, gv_scr, gv_ins, keptAt_eq, kp_some, mi_own, mi_bor, mi_int, mi_bl, mi_str, mi_non, mi_tup, mi_lst, mi_scr, mi_ins, mvAt_eq, mv_some, mv_own, mv_bor, mv_int, mv_bl, mv_str, mv_non, mv_tup, mv_lst, mv_scr, mv_ins,
  fz_own, fz_l, fz_i, fzI, fz_bl, fz_str, fz_non, fzT, fz_lst, fz_scr, fz_ins, fz_set, fz_ty, fz_gl, b_int, i_add, u_neg, u_inv, c_lt, c_le, c_gt, c_ge, c_eqI, c_neI, c_eqB, c_isN, c_notN, t_bl, t_int, t_non, t_tup, t_lst, x_tup, x_lst, x_scr, s_lst, s_scr,
  l_len1, l_len2, l_len3, l_int, l_abs, l_tup, l_tup2, l_list, l_list2, l_max, l_min, l_isi, nil_out, out_int, out_bl, out_tup, out_lst, out_scr, out_ins, out_non, out_bor, nO, tB, tI, back_eq, put_none,
  List.map_cons, List.map_nil, List.length_cons, List.length_nil, List.replicate, List.getElem?_cons_zero, List.getElem?_cons_succ, List.append_nil, List.nil_append, List.cons_append, List.set_cons_zero, List.set_cons_succ, Option.map_some, Option.isSome_some, Option.isSome_none, if_true, if_false, ite_true, ite_false, Bool.false_eq_true, reduceCtorEq, Nat.reduceAdd, Nat.reduceSub, rng_1 (b := 13) (by decide), Int.reduceToNat, rng_nats] <;> try dsimp only [Dx.D.fz, Dx.MV.fz])
    generalize hY : forD _ _ _ = Y
    have key2 := run_ex hY (fun i ρ => ∃ o, ρ = [some (.bor (purse q3)), some x, some (.int (c : Int)), some (.tup (natsD ra)), some (hoursD c ra), some (.tup (natsD (bitsL (powN c (maskN ra) i)))), o, o7, o8, o9]) ⟨o6, by rw [bits_pow0]; rfl⟩ (by
      clear hY
      rintro i y ρ hy ⟨o, rfl⟩
      obtain ⟨z, hz, rfl⟩ := natsD_get hy
      obtain ⟨hl, hz⟩ := List.getElem?_eq_some_iff.mp hz
      rw [List.getElem_range] at hz
      subst hz
      rw [List.length_range] at hl
      refine ⟨[some (.bor (purse q3)), some x, some (.int (c : Int)), some (.tup (natsD ra)), some (hoursD c ra), some (.tup (natsD (bitsL (powN c (maskN ra) (i + 1))))), some (.int (i : Int)), o7, o8, o9], .inl ?_, _, rfl⟩
      (simp -dsimp only [evB, evS, evE, evT, evL, evA, evA1, evI, evP, evC, asgG, asgL, stoD, bind_eq, it_tup, it_lst, Nat.reduceLT, sz_0, sz_1, sz_2, sz_3, sz_4, sz_5, sz_6, sz_7, sz_8, wipe_nil, wipe_cons, Nat.zero_lt_succ, Nat.not_lt_zero, decide_true, decide_false, lift_some, thenF_nx, thenF_ret, back_none', fin_ret, fin_nx, startN,
  getVar_eq, gv_own, gv_int, gv_bl, gv_str, gv_non, gv_tup, gv_lst, gv_scr, gv_ins, keptAt_eq, kp_some, mi_own, mi_bor, mi_int, mi_bl, mi_str, mi_non, mi_tup, mi_lst, mi_scr, mi_ins, mvAt_eq, mv_some, mv_own, mv_bor, mv_int, mv_bl, mv_str, mv_non, mv_tup, mv_lst, mv_scr, mv_ins,
  fz_own, fz_l, fz_i, fzI, fz_bl, fz_str, fz_non, fzT, fz_lst, fz_scr, fz_ins, fz_set, fz_ty, fz_gl, b_int, i_add, u_neg, u_inv, c_lt, c_le, c_gt, c_ge, c_eqI, c_neI, c_eqB, c_isN, c_notN, t_bl, t_int, t_non, t_tup, t_lst, x_tup, x_lst, x_scr, s_lst, s_scr,
  l_len1, l_len2, l_len3, l_int, l_abs, l_tup, l_tup2, l_list, l_list2, l_max, l_min, l_isi, nil_out, out_int, out_bl, out_tup, out_lst, out_scr, out_ins, out_non, out_bor, nO, tB, tI, back_eq, put_none,
  List.map_cons, List.map_nil, List.length_cons, List.length_nil, List.replicate, List.getElem?_cons_zero, List.getElem?_cons_succ, List.append_nil, List.nil_append, List.cons_append, List.set_cons_zero, List.set_cons_succ, Option.map_some, Option.isSome_some, Option.isSome_none, if_true, if_false, ite_true, ite_false, Bool.false_eq_true, reduceCtorEq, Nat.reduceAdd, Nat.reduceSub, mH_fold (n := j) (t := i) j7 va (by omega), pH (n := j) (by omega), c_neT, decide_true, Bool.not_true] <;> try dsimp only [Dx.D.fz, Dx.MV.fz])
      rw [calO_eq (bag_d (bag_d (bag_d bag_nil))) (s_lsums (n := j) (by omega) (valid_bits c1 va.le (powN_lt c1)) va (by omega)), maskN_bitsL]
      (simp -dsimp only [evB, evS, evE, evT, evL, evA, evA1, evI, evP, evC, asgG, asgL, stoD, bind_eq, it_tup, it_lst, Nat.reduceLT, sz_0, sz_1, sz_2, sz_3, sz_4, sz_5, sz_6, sz_7, sz_8, wipe_nil, wipe_cons, Nat.zero_lt_succ, Nat.not_lt_zero, decide_true, decide_false, lift_some, thenF_nx, thenF_ret, back_none', fin_ret, fin_nx, startN,
  getVar_eq, gv_own, gv_int, gv_bl, gv_str, gv_non, gv_tup, gv_lst, gv_scr, gv_ins, keptAt_eq, kp_some, mi_own, mi_bor, mi_int, mi_bl, mi_str, mi_non, mi_tup, mi_lst, mi_scr, mi_ins, mvAt_eq, mv_some, mv_own, mv_bor, mv_int, mv_bl, mv_str, mv_non, mv_tup, mv_lst, mv_scr, mv_ins,
  fz_own, fz_l, fz_i, fzI, fz_bl, fz_str, fz_non, fzT, fz_lst, fz_scr, fz_ins, fz_set, fz_ty, fz_gl, b_int, i_add, u_neg, u_inv, c_lt, c_le, c_gt, c_ge, c_eqI, c_neI, c_eqB, c_isN, c_notN, t_bl, t_int, t_non, t_tup, t_lst, x_tup, x_lst, x_scr, s_lst, s_scr,
  l_len1, l_len2, l_len3, l_int, l_abs, l_tup, l_tup2, l_list, l_list2, l_max, l_min, l_isi, nil_out, out_int, out_bl, out_tup, out_lst, out_scr, out_ins, out_non, out_bor, nO, tB, tI, back_eq, put_none,
  List.map_cons, List.map_nil, List.length_cons, List.length_nil, List.replicate, List.getElem?_cons_zero, List.getElem?_cons_succ, List.append_nil, List.nil_append, List.cons_append, List.set_cons_zero, List.set_cons_succ, Option.map_some, Option.isSome_some, Option.isSome_none, if_true, if_false, ite_true, ite_false, Bool.false_eq_true, reduceCtorEq, Nat.reduceAdd, Nat.reduceSub] <;> try dsimp only [Dx.D.fz, Dx.MV.fz])
      rfl)
    obtain ⟨ρ', rfl, o, rfl⟩ := key2
    (simp -dsimp only [evB, evS, evE, evT, evL, evA, evA1, evI, evP, evC, asgG, asgL, stoD, bind_eq, it_tup, it_lst, Nat.reduceLT, sz_0, sz_1, sz_2, sz_3, sz_4, sz_5, sz_6, sz_7, sz_8, wipe_nil, wipe_cons, Nat.zero_lt_succ, Nat.not_lt_zero, decide_true, decide_false, lift_some, thenF_nx, thenF_ret, back_none', fin_ret, fin_nx, startN,
  getVar_eq, gv_own, gv_int, gv_bl, gv_str, gv_non, gv_tup, gv_lst, gv_scr, gv_ins, keptAt_eq, kp_some, mi_own, mi_bor, mi_int, mi_bl, mi_str, mi_non, mi_tup, mi_lst, mi_scr, mi_ins, mvAt_eq, mv_some, mv_own, mv_bor, mv_int, mv_bl, mv_str, mv_non, mv_tup, mv_lst, mv_scr, mv_ins,
  fz_own, fz_l, fz_i, fzI, fz_bl, fz_str, fz_non, fzT, fz_lst, fz_scr, fz_ins, fz_set, fz_ty, fz_gl, b_int, i_add, u_neg, u_inv, c_lt, c_le, c_gt, c_ge, c_eqI, c_neI, c_eqB, c_isN, c_notN, t_bl, t_int, t_non, t_tup, t_lst, x_tup, x_lst, x_scr, s_lst, s_scr,
  l_len1, l_len2, l_len3, l_int, l_abs, l_tup, l_tup2, l_list, l_list2, l_max, l_min, l_isi, nil_out, out_int, out_bl, out_tup, out_lst, out_scr, out_ins, out_non, out_bor, nO, tB, tI, back_eq, put_none,
  List.map_cons, List.map_nil, List.length_cons, List.length_nil, List.replicate, List.getElem?_cons_zero, List.getElem?_cons_succ, List.append_nil, List.nil_append, List.cons_append, List.set_cons_zero, List.set_cons_succ, Option.map_some, Option.isSome_some, Option.isSome_none, if_true, if_false, ite_true, ite_false, Bool.false_eq_true, reduceCtorEq, Nat.reduceAdd, Nat.reduceSub] <;> try dsimp only [Dx.D.fz, Dx.MV.fz])
    rw [calO_eq (bag_len mv0_bor bag_nil) e4]
    (simp -dsimp only [evB, evS, evE, evT, evL, evA, evA1, evI, evP, evC, asgG, asgL, stoD, bind_eq, it_tup, it_lst, Nat.reduceLT, sz_0, sz_1, sz_2, sz_3, sz_4, sz_5, sz_6, sz_7, sz_8, wipe_nil, wipe_cons, Nat.zero_lt_succ, Nat.not_lt_zero, decide_true, decide_false, lift_some, thenF_nx, thenF_ret, back_none', fin_ret, fin_nx, startN,
  getVar_eq, gv_own, gv_int, gv_bl, gv_str, gv_non, gv_tup, gv_lst, gv_scr, gv_ins, keptAt_eq, kp_some, mi_own, mi_bor, mi_int, mi_bl, mi_str, mi_non, mi_tup, mi_lst, mi_scr, mi_ins, mvAt_eq, mv_some, mv_own, mv_bor, mv_int, mv_bl, mv_str, mv_non, mv_tup, mv_lst, mv_scr, mv_ins,
  fz_own, fz_l, fz_i, fzI, fz_bl, fz_str, fz_non, fzT, fz_lst, fz_scr, fz_ins, fz_set, fz_ty, fz_gl, b_int, i_add, u_neg, u_inv, c_lt, c_le, c_gt, c_ge, c_eqI, c_neI, c_eqB, c_isN, c_notN, t_bl, t_int, t_non, t_tup, t_lst, x_tup, x_lst, x_scr, s_lst, s_scr,
  l_len1, l_len2, l_len3, l_int, l_abs, l_tup, l_tup2, l_list, l_list2, l_max, l_min, l_isi, nil_out, out_int, out_bl, out_tup, out_lst, out_scr, out_ins, out_non, out_bor, nO, tB, tI, back_eq, put_none,
  List.map_cons, List.map_nil, List.length_cons, List.length_nil, List.replicate, List.getElem?_cons_zero, List.getElem?_cons_succ, List.append_nil, List.nil_append, List.cons_append, List.set_cons_zero, List.set_cons_succ, Option.map_some, Option.isSome_some, Option.isSome_none, if_true, if_false, ite_true, ite_false, Bool.false_eq_true, reduceCtorEq, Nat.reduceAdd, Nat.reduceSub, po_bor] <;> try dsimp only [Dx.D.fz, Dx.MV.fz])
    rw [calO_eq (bag_len mv0_bor (bag_d bag_nil)) e5]
    have hfar' : far + near ≤ 1000000000000000000000000000000 := by
      have : (10 : Nat) ^ 29 = 100000000000000000000000000000 := by decide
      omega
    have hA := vm va
    (simp -dsimp only [evB, evS, evE, evT, evL, evA, evA1, evI, evP, evC, asgG, asgL, stoD, bind_eq, it_tup, it_lst, Nat.reduceLT, sz_0, sz_1, sz_2, sz_3, sz_4, sz_5, sz_6, sz_7, sz_8, wipe_nil, wipe_cons, Nat.zero_lt_succ, Nat.not_lt_zero, decide_true, decide_false, lift_some, thenF_nx, thenF_ret, back_none', fin_ret, fin_nx, startN,
  getVar_eq, gv_own, gv_int, gv_bl, gv_str, gv_non, gv_tup, gv_lst, gv_scr, gv_ins, keptAt_eq, kp_some, mi_own, mi_bor, mi_int, mi_bl, mi_str, mi_non, mi_tup, mi_lst, mi_scr, mi_ins, mvAt_eq, mv_some, mv_own, mv_bor, mv_int, mv_bl, mv_str, mv_non, mv_tup, mv_lst, mv_scr, mv_ins,
  fz_own, fz_l, fz_i, fzI, fz_bl, fz_str, fz_non, fzT, fz_lst, fz_scr, fz_ins, fz_set, fz_ty, fz_gl, b_int, i_add, u_neg, u_inv, c_lt, c_le, c_gt, c_ge, c_eqI, c_neI, c_eqB, c_isN, c_notN, t_bl, t_int, t_non, t_tup, t_lst, x_tup, x_lst, x_scr, s_lst, s_scr,
  l_len1, l_len2, l_len3, l_int, l_abs, l_tup, l_tup2, l_list, l_list2, l_max, l_min, l_isi, nil_out, out_int, out_bl, out_tup, out_lst, out_scr, out_ins, out_non, out_bor, nO, tB, tI, back_eq, put_none,
  List.map_cons, List.map_nil, List.length_cons, List.length_nil, List.replicate, List.getElem?_cons_zero, List.getElem?_cons_succ, List.append_nil, List.nil_append, List.cons_append, List.set_cons_zero, List.set_cons_succ, Option.map_some, Option.isSome_some, Option.isSome_none, if_true, if_false, ite_true, ite_false, Bool.false_eq_true, reduceCtorEq, Nat.reduceAdd, Nat.reduceSub, po_bor, i_mul (a := 2) (b := (c : Int)) (mulOk_r (by omega))] <;> try dsimp only [Dx.D.fz, Dx.MV.fz])
    by_cases h : (2 : Int) * c ≤ far
    · rw [decide_eq_true h]
      (simp -dsimp only [evB, evS, evE, evT, evL, evA, evA1, evI, evP, evC, asgG, asgL, stoD, bind_eq, it_tup, it_lst, Nat.reduceLT, sz_0, sz_1, sz_2, sz_3, sz_4, sz_5, sz_6, sz_7, sz_8, wipe_nil, wipe_cons, Nat.zero_lt_succ, Nat.not_lt_zero, decide_true, decide_false, lift_some, thenF_nx, thenF_ret, back_none', fin_ret, fin_nx, startN,
  getVar_eq, gv_own, gv_int, gv_bl, gv_str, gv_non, gv_tup, gv_lst, gv_scr, gv_ins, keptAt_eq, kp_some, mi_own, mi_bor, mi_int, mi_bl, mi_str, mi_non, mi_tup, mi_lst, mi_scr, mi_ins, mvAt_eq, mv_some, mv_own, mv_bor, mv_int, mv_bl, mv_str, mv_non, mv_tup, mv_lst, mv_scr, mv_ins,
  fz_own, fz_l, fz_i, fzI, fz_bl, fz_str, fz_non, fzT, fz_lst, fz_scr, fz_ins, fz_set, fz_ty, fz_gl, b_int, i_add, u_neg, u_inv, c_lt, c_le, c_gt, c_ge, c_eqI, c_neI, c_eqB, c_isN, c_notN, t_bl, t_int, t_non, t_tup, t_lst, x_tup, x_lst, x_scr, s_lst, s_scr,
  l_len1, l_len2, l_len3, l_int, l_abs, l_tup, l_tup2, l_list, l_list2, l_max, l_min, l_isi, nil_out, out_int, out_bl, out_tup, out_lst, out_scr, out_ins, out_non, out_bor, nO, tB, tI, back_eq, put_none,
  List.map_cons, List.map_nil, List.length_cons, List.length_nil, List.replicate, List.getElem?_cons_zero, List.getElem?_cons_succ, List.append_nil, List.nil_append, List.cons_append, List.set_cons_zero, List.set_cons_succ, Option.map_some, Option.isSome_some, Option.isSome_none, if_true, if_false, ite_true, ite_false, Bool.false_eq_true, reduceCtorEq, Nat.reduceAdd, Nat.reduceSub, i_mul (a := 2) (b := (c : Int)) (mulOk_r (by omega)), i_mod (a := (far : Int)) (b := (c : Int)) (by omega)] <;> try dsimp only [Dx.D.fz, Dx.MV.fz])
      rw [show (2 : Int) * (c : Int) + (far : Int) % (c : Int) = ((2 * c + far % c : Nat) : Int) by rw [Int.natCast_add, Int.natCast_mul, Int.natCast_emod]; rfl]
      have hm := Nat.mod_lt far c1
      (simp -dsimp only [evB, evS, evE, evT, evL, evA, evA1, evI, evP, evC, asgG, asgL, stoD, bind_eq, it_tup, it_lst, Nat.reduceLT, sz_0, sz_1, sz_2, sz_3, sz_4, sz_5, sz_6, sz_7, sz_8, wipe_nil, wipe_cons, Nat.zero_lt_succ, Nat.not_lt_zero, decide_true, decide_false, lift_some, thenF_nx, thenF_ret, back_none', fin_ret, fin_nx, startN,
  getVar_eq, gv_own, gv_int, gv_bl, gv_str, gv_non, gv_tup, gv_lst, gv_scr, gv_ins, keptAt_eq, kp_some, mi_own, mi_bor, mi_int, mi_bl, mi_str, mi_non, mi_tup, mi_lst, mi_scr, mi_ins, mvAt_eq, mv_some, mv_own, mv_bor, mv_int, mv_bl, mv_str, mv_non, mv_tup, mv_lst, mv_scr, mv_ins,
  fz_own, fz_l, fz_i, fzI, fz_bl, fz_str, fz_non, fzT, fz_lst, fz_scr, fz_ins, fz_set, fz_ty, fz_gl, b_int, i_add, u_neg, u_inv, c_lt, c_le, c_gt, c_ge, c_eqI, c_neI, c_eqB, c_isN, c_notN, t_bl, t_int, t_non, t_tup, t_lst, x_tup, x_lst, x_scr, s_lst, s_scr,
  l_len1, l_len2, l_len3, l_int, l_abs, l_tup, l_tup2, l_list, l_list2, l_max, l_min, l_isi, nil_out, out_int, out_bl, out_tup, out_lst, out_scr, out_ins, out_non, out_bor, nO, tB, tI, back_eq, put_none,
  List.map_cons, List.map_nil, List.length_cons, List.length_nil, List.replicate, List.getElem?_cons_zero, List.getElem?_cons_succ, List.append_nil, List.nil_append, List.cons_append, List.set_cons_zero, List.set_cons_succ, Option.map_some, Option.isSome_some, Option.isSome_none, if_true, if_false, ite_true, ite_false, Bool.false_eq_true, reduceCtorEq, Nat.reduceAdd, Nat.reduceSub, mH_fold (n := j) (t := far) j7 va (by omega), pH (n := j) (by omega)] <;> try dsimp only [Dx.D.fz, Dx.MV.fz])
      rw [calO_eq (bag_d (bag_d (bag_d bag_nil))) (s_lfold (n := j) (t := 2 * c + far % c) (by omega) va (by omega) (by omega)), less_far c1 va.le hA (by omega)]
      (simp -dsimp only [evB, evS, evE, evT, evL, evA, evA1, evI, evP, evC, asgG, asgL, stoD, bind_eq, it_tup, it_lst, Nat.reduceLT, sz_0, sz_1, sz_2, sz_3, sz_4, sz_5, sz_6, sz_7, sz_8, wipe_nil, wipe_cons, Nat.zero_lt_succ, Nat.not_lt_zero, decide_true, decide_false, lift_some, thenF_nx, thenF_ret, back_none', fin_ret, fin_nx, startN,
  getVar_eq, gv_own, gv_int, gv_bl, gv_str, gv_non, gv_tup, gv_lst, gv_scr, gv_ins, keptAt_eq, kp_some, mi_own, mi_bor, mi_int, mi_bl, mi_str, mi_non, mi_tup, mi_lst, mi_scr, mi_ins, mvAt_eq, mv_some, mv_own, mv_bor, mv_int, mv_bl, mv_str, mv_non, mv_tup, mv_lst, mv_scr, mv_ins,
  fz_own, fz_l, fz_i, fzI, fz_bl, fz_str, fz_non, fzT, fz_lst, fz_scr, fz_ins, fz_set, fz_ty, fz_gl, b_int, i_add, u_neg, u_inv, c_lt, c_le, c_gt, c_ge, c_eqI, c_neI, c_eqB, c_isN, c_notN, t_bl, t_int, t_non, t_tup, t_lst, x_tup, x_lst, x_scr, s_lst, s_scr,
  l_len1, l_len2, l_len3, l_int, l_abs, l_tup, l_tup2, l_list, l_list2, l_max, l_min, l_isi, nil_out, out_int, out_bl, out_tup, out_lst, out_scr, out_ins, out_non, out_bor, nO, tB, tI, back_eq, put_none,
  List.map_cons, List.map_nil, List.length_cons, List.length_nil, List.replicate, List.getElem?_cons_zero, List.getElem?_cons_succ, List.append_nil, List.nil_append, List.cons_append, List.set_cons_zero, List.set_cons_succ, Option.map_some, Option.isSome_some, Option.isSome_none, if_true, if_false, ite_true, ite_false, Bool.false_eq_true, reduceCtorEq, Nat.reduceAdd, Nat.reduceSub, c_neT, decide_true, Bool.not_true, mH_fold (n := j) (t := far) j7 va (by omega), mH_fold (n := j) (t := near) j7 va (by omega)] <;> try dsimp only [Dx.D.fz, Dx.MV.fz])
      (simp -dsimp only [evB, evS, evE, evT, evL, evA, evA1, evI, evP, evC, asgG, asgL, stoD, bind_eq, it_tup, it_lst, Nat.reduceLT, sz_0, sz_1, sz_2, sz_3, sz_4, sz_5, sz_6, sz_7, sz_8, wipe_nil, wipe_cons, Nat.zero_lt_succ, Nat.not_lt_zero, decide_true, decide_false, lift_some, thenF_nx, thenF_ret, back_none', fin_ret, fin_nx, startN,
  getVar_eq, gv_own, gv_int, gv_bl, gv_str, gv_non, gv_tup, gv_lst, gv_scr, gv_ins, keptAt_eq, kp_some, mi_own, mi_bor, mi_int, mi_bl, mi_str, mi_non, mi_tup, mi_lst, mi_scr, mi_ins, mvAt_eq, mv_some, mv_own, mv_bor, mv_int, mv_bl, mv_str, mv_non, mv_tup, mv_lst, mv_scr, mv_ins,
  fz_own, fz_l, fz_i, fzI, fz_bl, fz_str, fz_non, fzT, fz_lst, fz_scr, fz_ins, fz_set, fz_ty, fz_gl, b_int, i_add, u_neg, u_inv, c_lt, c_le, c_gt, c_ge, c_eqI, c_neI, c_eqB, c_isN, c_notN, t_bl, t_int, t_non, t_tup, t_lst, x_tup, x_lst, x_scr, s_lst, s_scr,
  l_len1, l_len2, l_len3, l_int, l_abs, l_tup, l_tup2, l_list, l_list2, l_max, l_min, l_isi, nil_out, out_int, out_bl, out_tup, out_lst, out_scr, out_ins, out_non, out_bor, nO, tB, tI, back_eq, put_none,
  List.map_cons, List.map_nil, List.length_cons, List.length_nil, List.replicate, List.getElem?_cons_zero, List.getElem?_cons_succ, List.append_nil, List.nil_append, List.cons_append, List.set_cons_zero, List.set_cons_succ, Option.map_some, Option.isSome_some, Option.isSome_none, if_true, if_false, ite_true, ite_false, Bool.false_eq_true, reduceCtorEq, Nat.reduceAdd, Nat.reduceSub, bH_add (n := j) j7 (valid_bits c1 va.le (powN_lt (A := maskN ra) (t := far) c1)) (valid_bits c1 va.le (powN_lt (A := maskN ra) (t := near) c1))] <;> try dsimp only [Dx.D.fz, Dx.MV.fz])
      rw [← Int.natCast_add]
      (simp -dsimp only [evB, evS, evE, evT, evL, evA, evA1, evI, evP, evC, asgG, asgL, stoD, bind_eq, it_tup, it_lst, Nat.reduceLT, sz_0, sz_1, sz_2, sz_3, sz_4, sz_5, sz_6, sz_7, sz_8, wipe_nil, wipe_cons, Nat.zero_lt_succ, Nat.not_lt_zero, decide_true, decide_false, lift_some, thenF_nx, thenF_ret, back_none', fin_ret, fin_nx, startN,
  getVar_eq, gv_own, gv_int, gv_bl, gv_str, gv_non, gv_tup, gv_lst, gv_scr, gv_ins, keptAt_eq, kp_some, mi_own, mi_bor, mi_int, mi_bl, mi_str, mi_non, mi_tup, mi_lst, mi_scr, mi_ins, mvAt_eq, mv_some, mv_own, mv_bor, mv_int, mv_bl, mv_str, mv_non, mv_tup, mv_lst, mv_scr, mv_ins,
  fz_own, fz_l, fz_i, fzI, fz_bl, fz_str, fz_non, fzT, fz_lst, fz_scr, fz_ins, fz_set, fz_ty, fz_gl, b_int, i_add, u_neg, u_inv, c_lt, c_le, c_gt, c_ge, c_eqI, c_neI, c_eqB, c_isN, c_notN, t_bl, t_int, t_non, t_tup, t_lst, x_tup, x_lst, x_scr, s_lst, s_scr,
  l_len1, l_len2, l_len3, l_int, l_abs, l_tup, l_tup2, l_list, l_list2, l_max, l_min, l_isi, nil_out, out_int, out_bl, out_tup, out_lst, out_scr, out_ins, out_non, out_bor, nO, tB, tI, back_eq, put_none,
  List.map_cons, List.map_nil, List.length_cons, List.length_nil, List.replicate, List.getElem?_cons_zero, List.getElem?_cons_succ, List.append_nil, List.nil_append, List.cons_append, List.set_cons_zero, List.set_cons_succ, Option.map_some, Option.isSome_some, Option.isSome_none, if_true, if_false, ite_true, ite_false, Bool.false_eq_true, reduceCtorEq, Nat.reduceAdd, Nat.reduceSub, mH_fold (n := j) (t := far + near) j7 va hfar'] <;> try dsimp only [Dx.D.fz, Dx.MV.fz])
      rw [c_neH (n := j) (by omega), decide_eq_true (by rw [maskN_bitsL, maskN_bitsL, powN_add c1 hA])]
      (simp -dsimp only [evB, evS, evE, evT, evL, evA, evA1, evI, evP, evC, asgG, asgL, stoD, bind_eq, it_tup, it_lst, Nat.reduceLT, sz_0, sz_1, sz_2, sz_3, sz_4, sz_5, sz_6, sz_7, sz_8, wipe_nil, wipe_cons, Nat.zero_lt_succ, Nat.not_lt_zero, decide_true, decide_false, lift_some, thenF_nx, thenF_ret, back_none', fin_ret, fin_nx, startN,
  getVar_eq, gv_own, gv_int, gv_bl, gv_str, gv_non, gv_tup, gv_lst, gv_scr, gv_ins, keptAt_eq, kp_some, mi_own, mi_bor, mi_int, mi_bl, mi_str, mi_non, mi_tup, mi_lst, mi_scr, mi_ins, mvAt_eq, mv_some, mv_own, mv_bor, mv_int, mv_bl, mv_str, mv_non, mv_tup, mv_lst, mv_scr, mv_ins,
  fz_own, fz_l, fz_i, fzI, fz_bl, fz_str, fz_non, fzT, fz_lst, fz_scr, fz_ins, fz_set, fz_ty, fz_gl, b_int, i_add, u_neg, u_inv, c_lt, c_le, c_gt, c_ge, c_eqI, c_neI, c_eqB, c_isN, c_notN, t_bl, t_int, t_non, t_tup, t_lst, x_tup, x_lst, x_scr, s_lst, s_scr,
  l_len1, l_len2, l_len3, l_int, l_abs, l_tup, l_tup2, l_list, l_list2, l_max, l_min, l_isi, nil_out, out_int, out_bl, out_tup, out_lst, out_scr, out_ins, out_non, out_bor, nO, tB, tI, back_eq, put_none,
  List.map_cons, List.map_nil, List.length_cons, List.length_nil, List.replicate, List.getElem?_cons_zero, List.getElem?_cons_succ, List.append_nil, List.nil_append, List.cons_append, List.set_cons_zero, List.set_cons_succ, Option.map_some, Option.isSome_some, Option.isSome_none, if_true, if_false, ite_true, ite_false, Bool.false_eq_true, reduceCtorEq, Nat.reduceAdd, Nat.reduceSub, Bool.not_true] <;> try dsimp only [Dx.D.fz, Dx.MV.fz])
      exact ⟨_, rfl, q5, _, _, _, _, _, _, _, _, _, rfl, hq5, fun _ => ⟨c, ra, va, rfl, rfl, rfl⟩⟩
    · rw [decide_eq_false h]
      (simp -dsimp only [evB, evS, evE, evT, evL, evA, evA1, evI, evP, evC, asgG, asgL, stoD, bind_eq, it_tup, it_lst, Nat.reduceLT, sz_0, sz_1, sz_2, sz_3, sz_4, sz_5, sz_6, sz_7, sz_8, wipe_nil, wipe_cons, Nat.zero_lt_succ, Nat.not_lt_zero, decide_true, decide_false, lift_some, thenF_nx, thenF_ret, back_none', fin_ret, fin_nx, startN,
  getVar_eq, gv_own, gv_int, gv_bl, gv_str, gv_non, gv_tup, gv_lst, gv_scr, gv_ins, keptAt_eq, kp_some, mi_own, mi_bor, mi_int, mi_bl, mi_str, mi_non, mi_tup, mi_lst, mi_scr, mi_ins, mvAt_eq, mv_some, mv_own, mv_bor, mv_int, mv_bl, mv_str, mv_non, mv_tup, mv_lst, mv_scr, mv_ins,
  fz_own, fz_l, fz_i, fzI, fz_bl, fz_str, fz_non, fzT, fz_lst, fz_scr, fz_ins, fz_set, fz_ty, fz_gl, b_int, i_add, u_neg, u_inv, c_lt, c_le, c_gt, c_ge, c_eqI, c_neI, c_eqB, c_isN, c_notN, t_bl, t_int, t_non, t_tup, t_lst, x_tup, x_lst, x_scr, s_lst, s_scr,
  l_len1, l_len2, l_len3, l_int, l_abs, l_tup, l_tup2, l_list, l_list2, l_max, l_min, l_isi, nil_out, out_int, out_bl, out_tup, out_lst, out_scr, out_ins, out_non, out_bor, nO, tB, tI, back_eq, put_none,
  List.map_cons, List.map_nil, List.length_cons, List.length_nil, List.replicate, List.getElem?_cons_zero, List.getElem?_cons_succ, List.append_nil, List.nil_append, List.cons_append, List.set_cons_zero, List.set_cons_succ, Option.map_some, Option.isSome_some, Option.isSome_none, if_true, if_false, ite_true, ite_false, Bool.false_eq_true, reduceCtorEq, Nat.reduceAdd, Nat.reduceSub, mH_fold (n := j) (t := far) j7 va (by omega), pH (n := j) (by omega)] <;> try dsimp only [Dx.D.fz, Dx.MV.fz])
      rw [calO_eq (bag_d (bag_d (bag_d bag_nil))) (s_lfold (n := j) (t := far) (by omega) va (by omega) (by omega))]
      (simp -dsimp only [evB, evS, evE, evT, evL, evA, evA1, evI, evP, evC, asgG, asgL, stoD, bind_eq, it_tup, it_lst, Nat.reduceLT, sz_0, sz_1, sz_2, sz_3, sz_4, sz_5, sz_6, sz_7, sz_8, wipe_nil, wipe_cons, Nat.zero_lt_succ, Nat.not_lt_zero, decide_true, decide_false, lift_some, thenF_nx, thenF_ret, back_none', fin_ret, fin_nx, startN,
  getVar_eq, gv_own, gv_int, gv_bl, gv_str, gv_non, gv_tup, gv_lst, gv_scr, gv_ins, keptAt_eq, kp_some, mi_own, mi_bor, mi_int, mi_bl, mi_str, mi_non, mi_tup, mi_lst, mi_scr, mi_ins, mvAt_eq, mv_some, mv_own, mv_bor, mv_int, mv_bl, mv_str, mv_non, mv_tup, mv_lst, mv_scr, mv_ins,
  fz_own, fz_l, fz_i, fzI, fz_bl, fz_str, fz_non, fzT, fz_lst, fz_scr, fz_ins, fz_set, fz_ty, fz_gl, b_int, i_add, u_neg, u_inv, c_lt, c_le, c_gt, c_ge, c_eqI, c_neI, c_eqB, c_isN, c_notN, t_bl, t_int, t_non, t_tup, t_lst, x_tup, x_lst, x_scr, s_lst, s_scr,
  l_len1, l_len2, l_len3, l_int, l_abs, l_tup, l_tup2, l_list, l_list2, l_max, l_min, l_isi, nil_out, out_int, out_bl, out_tup, out_lst, out_scr, out_ins, out_non, out_bor, nO, tB, tI, back_eq, put_none,
  List.map_cons, List.map_nil, List.length_cons, List.length_nil, List.replicate, List.getElem?_cons_zero, List.getElem?_cons_succ, List.append_nil, List.nil_append, List.cons_append, List.set_cons_zero, List.set_cons_succ, Option.map_some, Option.isSome_some, Option.isSome_none, if_true, if_false, ite_true, ite_false, Bool.false_eq_true, reduceCtorEq, Nat.reduceAdd, Nat.reduceSub, c_neT, decide_true, Bool.not_true, mH_fold (n := j) (t := far) j7 va (by omega), mH_fold (n := j) (t := near) j7 va (by omega)] <;> try dsimp only [Dx.D.fz, Dx.MV.fz])
      (simp -dsimp only [evB, evS, evE, evT, evL, evA, evA1, evI, evP, evC, asgG, asgL, stoD, bind_eq, it_tup, it_lst, Nat.reduceLT, sz_0, sz_1, sz_2, sz_3, sz_4, sz_5, sz_6, sz_7, sz_8, wipe_nil, wipe_cons, Nat.zero_lt_succ, Nat.not_lt_zero, decide_true, decide_false, lift_some, thenF_nx, thenF_ret, back_none', fin_ret, fin_nx, startN,
  getVar_eq, gv_own, gv_int, gv_bl, gv_str, gv_non, gv_tup, gv_lst, gv_scr, gv_ins, keptAt_eq, kp_some, mi_own, mi_bor, mi_int, mi_bl, mi_str, mi_non, mi_tup, mi_lst, mi_scr, mi_ins, mvAt_eq, mv_some, mv_own, mv_bor, mv_int, mv_bl, mv_str, mv_non, mv_tup, mv_lst, mv_scr, mv_ins,
  fz_own, fz_l, fz_i, fzI, fz_bl, fz_str, fz_non, fzT, fz_lst, fz_scr, fz_ins, fz_set, fz_ty, fz_gl, b_int, i_add, u_neg, u_inv, c_lt, c_le, c_gt, c_ge, c_eqI, c_neI, c_eqB, c_isN, c_notN, t_bl, t_int, t_non, t_tup, t_lst, x_tup, x_lst, x_scr, s_lst, s_scr,
  l_len1, l_len2, l_len3, l_int, l_abs, l_tup, l_tup2, l_list, l_list2, l_max, l_min, l_isi, nil_out, out_int, out_bl, out_tup, out_lst, out_scr, out_ins, out_non, out_bor, nO, tB, tI, back_eq, put_none,
  List.map_cons, List.map_nil, List.length_cons, List.length_nil, List.replicate, List.getElem?_cons_zero, List.getElem?_cons_succ, List.append_nil, List.nil_append, List.cons_append, List.set_cons_zero, List.set_cons_succ, Option.map_some, Option.isSome_some, Option.isSome_none, if_true, if_false, ite_true, ite_false, Bool.false_eq_true, reduceCtorEq, Nat.reduceAdd, Nat.reduceSub, bH_add (n := j) j7 (valid_bits c1 va.le (powN_lt (A := maskN ra) (t := far) c1)) (valid_bits c1 va.le (powN_lt (A := maskN ra) (t := near) c1))] <;> try dsimp only [Dx.D.fz, Dx.MV.fz])
      rw [← Int.natCast_add]
      (simp -dsimp only [evB, evS, evE, evT, evL, evA, evA1, evI, evP, evC, asgG, asgL, stoD, bind_eq, it_tup, it_lst, Nat.reduceLT, sz_0, sz_1, sz_2, sz_3, sz_4, sz_5, sz_6, sz_7, sz_8, wipe_nil, wipe_cons, Nat.zero_lt_succ, Nat.not_lt_zero, decide_true, decide_false, lift_some, thenF_nx, thenF_ret, back_none', fin_ret, fin_nx, startN,
  getVar_eq, gv_own, gv_int, gv_bl, gv_str, gv_non, gv_tup, gv_lst, gv_scr, gv_ins, keptAt_eq, kp_some, mi_own, mi_bor, mi_int, mi_bl, mi_str, mi_non, mi_tup, mi_lst, mi_scr, mi_ins, mvAt_eq, mv_some, mv_own, mv_bor, mv_int, mv_bl, mv_str, mv_non, mv_tup, mv_lst, mv_scr, mv_ins,
  fz_own, fz_l, fz_i, fzI, fz_bl, fz_str, fz_non, fzT, fz_lst, fz_scr, fz_ins, fz_set, fz_ty, fz_gl, b_int, i_add, u_neg, u_inv, c_lt, c_le, c_gt, c_ge, c_eqI, c_neI, c_eqB, c_isN, c_notN, t_bl, t_int, t_non, t_tup, t_lst, x_tup, x_lst, x_scr, s_lst, s_scr,
  l_len1, l_len2, l_len3, l_int, l_abs, l_tup, l_tup2, l_list, l_list2, l_max, l_min, l_isi, nil_out, out_int, out_bl, out_tup, out_lst, out_scr, out_ins, out_non, out_bor, nO, tB, tI, back_eq, put_none,
  List.map_cons, List.map_nil, List.length_cons, List.length_nil, List.replicate, List.getElem?_cons_zero, List.getElem?_cons_succ, List.append_nil, List.nil_append, List.cons_append, List.set_cons_zero, List.set_cons_succ, Option.map_some, Option.isSome_some, Option.isSome_none, if_true, if_false, ite_true, ite_false, Bool.false_eq_true, reduceCtorEq, Nat.reduceAdd, Nat.reduceSub, mH_fold (n := j) (t := far + near) j7 va hfar'] <;> try dsimp only [Dx.D.fz, Dx.MV.fz])
      rw [c_neH (n := j) (by omega), decide_eq_true (by rw [maskN_bitsL, maskN_bitsL, powN_add c1 hA])]
      (simp -dsimp only [evB, evS, evE, evT, evL, evA, evA1, evI, evP, evC, asgG, asgL, stoD, bind_eq, it_tup, it_lst, Nat.reduceLT, sz_0, sz_1, sz_2, sz_3, sz_4, sz_5, sz_6, sz_7, sz_8, wipe_nil, wipe_cons, Nat.zero_lt_succ, Nat.not_lt_zero, decide_true, decide_false, lift_some, thenF_nx, thenF_ret, back_none', fin_ret, fin_nx, startN,
  getVar_eq, gv_own, gv_int, gv_bl, gv_str, gv_non, gv_tup, gv_lst, gv_scr, gv_ins, keptAt_eq, kp_some, mi_own, mi_bor, mi_int, mi_bl, mi_str, mi_non, mi_tup, mi_lst, mi_scr, mi_ins, mvAt_eq, mv_some, mv_own, mv_bor, mv_int, mv_bl, mv_str, mv_non, mv_tup, mv_lst, mv_scr, mv_ins,
  fz_own, fz_l, fz_i, fzI, fz_bl, fz_str, fz_non, fzT, fz_lst, fz_scr, fz_ins, fz_set, fz_ty, fz_gl, b_int, i_add, u_neg, u_inv, c_lt, c_le, c_gt, c_ge, c_eqI, c_neI, c_eqB, c_isN, c_notN, t_bl, t_int, t_non, t_tup, t_lst, x_tup, x_lst, x_scr, s_lst, s_scr,
  l_len1, l_len2, l_len3, l_int, l_abs, l_tup, l_tup2, l_list, l_list2, l_max, l_min, l_isi, nil_out, out_int, out_bl, out_tup, out_lst, out_scr, out_ins, out_non, out_bor, nO, tB, tI, back_eq, put_none,
  List.map_cons, List.map_nil, List.length_cons, List.length_nil, List.replicate, List.getElem?_cons_zero, List.getElem?_cons_succ, List.append_nil, List.nil_append, List.cons_append, List.set_cons_zero, List.set_cons_succ, Option.map_some, Option.isSome_some, Option.isSome_none, if_true, if_false, ite_true, ite_false, Bool.false_eq_true, reduceCtorEq, Nat.reduceAdd, Nat.reduceSub, Bool.not_true] <;> try dsimp only [Dx.D.fz, Dx.MV.fz])
      exact ⟨_, rfl, q5, _, _, _, _, _, _, _, _, _, rfl, hq5, fun _ => ⟨c, ra, va, rfl, rfl, rfl⟩⟩)
  obtain ⟨ρ', rfl, q, o1, o2, o3, o4, o5, o6, o7, o8, o9, rfl, hq, hI⟩ := key
  obtain ⟨c, ra, va, rfl, rfl, rfl⟩ := hI (by decide)
  have c1 := va.pos
  (simp -dsimp only [evB, evS, evE, evT, evL, evA, evA1, evI, evP, evC, asgG, asgL, stoD, bind_eq, it_tup, it_lst, Nat.reduceLT, sz_0, sz_1, sz_2, sz_3, sz_4, sz_5, sz_6, sz_7, sz_8, wipe_nil, wipe_cons, Nat.zero_lt_succ, Nat.not_lt_zero, decide_true, decide_false, lift_some, thenF_nx, thenF_ret, back_none', fin_ret, fin_nx, startN,
  getVar_eq, gv_own, gv_int, gv_bl, gv_str, gv_non, gv_tup, gv_lst, gv_scr, gv_ins, keptAt_eq, kp_some, mi_own, mi_bor, mi_int, mi_bl, mi_str, mi_non, mi_tup, mi_lst, mi_scr, mi_ins, mvAt_eq, mv_some, mv_own, mv_bor, mv_int, mv_bl, mv_str, mv_non, mv_tup, mv_lst, mv_scr, mv_ins,
  fz_own, fz_l, fz_i, fzI, fz_bl, fz_str, fz_non, fzT, fz_lst, fz_scr, fz_ins, fz_set, fz_ty, fz_gl, b_int, i_add, u_neg, u_inv, c_lt, c_le, c_gt, c_ge, c_eqI, c_neI, c_eqB, c_isN, c_notN, t_bl, t_int, t_non, t_tup, t_lst, x_tup, x_lst, x_scr, s_lst, s_scr,
  l_len1, l_len2, l_len3, l_int, l_abs, l_tup, l_tup2, l_list, l_list2, l_max, l_min, l_isi, nil_out, out_int, out_bl, out_tup, out_lst, out_scr, out_ins, out_non, out_bor, nO, tB, tI, back_eq, put_none,
  List.map_cons, List.map_nil, List.length_cons, List.length_nil, List.replicate, List.getElem?_cons_zero, List.getElem?_cons_succ, List.append_nil, List.nil_append, List.cons_append, List.set_cons_zero, List.set_cons_succ, Option.map_some, Option.isSome_some, Option.isSome_none, if_true, if_false, ite_true, ite_false, Bool.false_eq_true, reduceCtorEq, Nat.reduceAdd, Nat.reduceSub, p30, mH_fold (n := j) (t := 1000000000000000000000000000000) j7 va (Nat.le_refl _), pC (n := j) (by omega), pH (n := j) (by omega), decide_true, c_tups] <;> try dsimp only [Dx.D.fz, Dx.MV.fz])
  exact ⟨_, rfl⟩
theorem s_law {n : Nat} {ns : List Int} (hn : 11 ≤ n) (hl : ns.length ≤ 63) : ∃ o, RT n (.f "law") [.scr (ns.map D.int)] = .ok (.bl true) o := by
  obtain ⟨j, rfl, hj⟩ := pos_of hn
  rw [RT, run_of t_law rfl]
  (simp -dsimp only [evB, evS, evE, evT, evL, evA, evA1, evI, evP, evC, asgG, asgL, stoD, bind_eq, it_tup, it_lst, Nat.reduceLT, sz_0, sz_1, sz_2, sz_3, sz_4, sz_5, sz_6, sz_7, sz_8, wipe_nil, wipe_cons, Nat.zero_lt_succ, Nat.not_lt_zero, decide_true, decide_false, lift_some, thenF_nx, thenF_ret, back_none', fin_ret, fin_nx, startN,
  getVar_eq, gv_own, gv_int, gv_bl, gv_str, gv_non, gv_tup, gv_lst, gv_scr, gv_ins, keptAt_eq, kp_some, mi_own, mi_bor, mi_int, mi_bl, mi_str, mi_non, mi_tup, mi_lst, mi_scr, mi_ins, mvAt_eq, mv_some, mv_own, mv_bor, mv_int, mv_bl, mv_str, mv_non, mv_tup, mv_lst, mv_scr, mv_ins,
  fz_own, fz_l, fz_i, fzI, fz_bl, fz_str, fz_non, fzT, fz_lst, fz_scr, fz_ins, fz_set, fz_ty, fz_gl, b_int, i_add, u_neg, u_inv, c_lt, c_le, c_gt, c_ge, c_eqI, c_neI, c_eqB, c_isN, c_notN, t_bl, t_int, t_non, t_tup, t_lst, x_tup, x_lst, x_scr, s_lst, s_scr,
  l_len1, l_len2, l_len3, l_int, l_abs, l_tup, l_tup2, l_list, l_list2, l_max, l_min, l_isi, nil_out, out_int, out_bl, out_tup, out_lst, out_scr, out_ins, out_non, out_bor, nO, tB, tI, back_eq, put_none,
  List.map_cons, List.map_nil, List.length_cons, List.length_nil, List.replicate, List.getElem?_cons_zero, List.getElem?_cons_succ, List.append_nil, List.nil_append, List.cons_append, List.set_cons_zero, List.set_cons_succ, Option.map_some, Option.isSome_some, Option.isSome_none, if_true, if_false, ite_true, ite_false, Bool.false_eq_true, reduceCtorEq, Nat.reduceAdd, Nat.reduceSub, lev_scr] <;> try dsimp only [Dx.D.fz, Dx.MV.fz])
  generalize ht : (if (if (4 : Int) < ((ns.map D.int).length : Int) then (4 : Int) else ((ns.map D.int).length : Int)) > 2 then (if (4 : Int) < ((ns.map D.int).length : Int) then (4 : Int) else ((ns.map D.int).length : Int)) else (2 : Int)) = t
  have t1 : 2 ≤ t ∧ t ≤ 4 := by
    rw [← ht]
    split <;> split <;> omega
  obtain ⟨k, rfl⟩ := Int.eq_ofNat_of_zero_le (show 0 ≤ t by omega)
  (simp -dsimp only [evB, evS, evE, evT, evL, evA, evA1, evI, evP, evC, asgG, asgL, stoD, bind_eq, it_tup, it_lst, Nat.reduceLT, sz_0, sz_1, sz_2, sz_3, sz_4, sz_5, sz_6, sz_7, sz_8, wipe_nil, wipe_cons, Nat.zero_lt_succ, Nat.not_lt_zero, decide_true, decide_false, lift_some, thenF_nx, thenF_ret, back_none', fin_ret, fin_nx, startN,
  getVar_eq, gv_own, gv_int, gv_bl, gv_str, gv_non, gv_tup, gv_lst, gv_scr, gv_ins, keptAt_eq, kp_some, mi_own, mi_bor, mi_int, mi_bl, mi_str, mi_non, mi_tup, mi_lst, mi_scr, mi_ins, mvAt_eq, mv_some, mv_own, mv_bor, mv_int, mv_bl, mv_str, mv_non, mv_tup, mv_lst, mv_scr, mv_ins,
  fz_own, fz_l, fz_i, fzI, fz_bl, fz_str, fz_non, fzT, fz_lst, fz_scr, fz_ins, fz_set, fz_ty, fz_gl, b_int, i_add, u_neg, u_inv, c_lt, c_le, c_gt, c_ge, c_eqI, c_neI, c_eqB, c_isN, c_notN, t_bl, t_int, t_non, t_tup, t_lst, x_tup, x_lst, x_scr, s_lst, s_scr,
  l_len1, l_len2, l_len3, l_int, l_abs, l_tup, l_tup2, l_list, l_list2, l_max, l_min, l_isi, nil_out, out_int, out_bl, out_tup, out_lst, out_scr, out_ins, out_non, out_bor, nO, tB, tI, back_eq, put_none,
  List.map_cons, List.map_nil, List.length_cons, List.length_nil, List.replicate, List.getElem?_cons_zero, List.getElem?_cons_succ, List.append_nil, List.nil_append, List.cons_append, List.set_cons_zero, List.set_cons_succ, Option.map_some, Option.isSome_some, Option.isSome_none, if_true, if_false, ite_true, ite_false, Bool.false_eq_true, reduceCtorEq, Nat.reduceAdd, Nat.reduceSub, rng_1 (b := (k : Int)) (by omega), Int.toNat_natCast, rng_nats] <;> try dsimp only [Dx.D.fz, Dx.MV.fz])
  rw [if_pos (sl (by rw [natsD_len, List.length_range]; omega)), lcD_nats (fun _ => true) (fun _ => .bl true) (fun z hz => ?_)]
  · (simp -dsimp only [evB, evS, evE, evT, evL, evA, evA1, evI, evP, evC, asgG, asgL, stoD, bind_eq, it_tup, it_lst, Nat.reduceLT, sz_0, sz_1, sz_2, sz_3, sz_4, sz_5, sz_6, sz_7, sz_8, wipe_nil, wipe_cons, Nat.zero_lt_succ, Nat.not_lt_zero, decide_true, decide_false, lift_some, thenF_nx, thenF_ret, back_none', fin_ret, fin_nx, startN,
  getVar_eq, gv_own, gv_int, gv_bl, gv_str, gv_non, gv_tup, gv_lst, gv_scr, gv_ins, keptAt_eq, kp_some, mi_own, mi_bor, mi_int, mi_bl, mi_str, mi_non, mi_tup, mi_lst, mi_scr, mi_ins, mvAt_eq, mv_some, mv_own, mv_bor, mv_int, mv_bl, mv_str, mv_non, mv_tup, mv_lst, mv_scr, mv_ins,
  fz_own, fz_l, fz_i, fzI, fz_bl, fz_str, fz_non, fzT, fz_lst, fz_scr, fz_ins, fz_set, fz_ty, fz_gl, b_int, i_add, u_neg, u_inv, c_lt, c_le, c_gt, c_ge, c_eqI, c_neI, c_eqB, c_isN, c_notN, t_bl, t_int, t_non, t_tup, t_lst, x_tup, x_lst, x_scr, s_lst, s_scr,
  l_len1, l_len2, l_len3, l_int, l_abs, l_tup, l_tup2, l_list, l_list2, l_max, l_min, l_isi, nil_out, out_int, out_bl, out_tup, out_lst, out_scr, out_ins, out_non, out_bor, nO, tB, tI, back_eq, put_none,
  List.map_cons, List.map_nil, List.length_cons, List.length_nil, List.replicate, List.getElem?_cons_zero, List.getElem?_cons_succ, List.append_nil, List.nil_append, List.cons_append, List.set_cons_zero, List.set_cons_succ, Option.map_some, Option.isSome_some, Option.isSome_none, if_true, if_false, ite_true, ite_false, Bool.false_eq_true, reduceCtorEq, Nat.reduceAdd, Nat.reduceSub] <;> try dsimp only [Dx.D.fz, Dx.MV.fz])
    rw [all_tr]
    (simp -dsimp only [evB, evS, evE, evT, evL, evA, evA1, evI, evP, evC, asgG, asgL, stoD, bind_eq, it_tup, it_lst, Nat.reduceLT, sz_0, sz_1, sz_2, sz_3, sz_4, sz_5, sz_6, sz_7, sz_8, wipe_nil, wipe_cons, Nat.zero_lt_succ, Nat.not_lt_zero, decide_true, decide_false, lift_some, thenF_nx, thenF_ret, back_none', fin_ret, fin_nx, startN,
  getVar_eq, gv_own, gv_int, gv_bl, gv_str, gv_non, gv_tup, gv_lst, gv_scr, gv_ins, keptAt_eq, kp_some, mi_own, mi_bor, mi_int, mi_bl, mi_str, mi_non, mi_tup, mi_lst, mi_scr, mi_ins, mvAt_eq, mv_some, mv_own, mv_bor, mv_int, mv_bl, mv_str, mv_non, mv_tup, mv_lst, mv_scr, mv_ins,
  fz_own, fz_l, fz_i, fzI, fz_bl, fz_str, fz_non, fzT, fz_lst, fz_scr, fz_ins, fz_set, fz_ty, fz_gl, b_int, i_add, u_neg, u_inv, c_lt, c_le, c_gt, c_ge, c_eqI, c_neI, c_eqB, c_isN, c_notN, t_bl, t_int, t_non, t_tup, t_lst, x_tup, x_lst, x_scr, s_lst, s_scr,
  l_len1, l_len2, l_len3, l_int, l_abs, l_tup, l_tup2, l_list, l_list2, l_max, l_min, l_isi, nil_out, out_int, out_bl, out_tup, out_lst, out_scr, out_ins, out_non, out_bor, nO, tB, tI, back_eq, put_none,
  List.map_cons, List.map_nil, List.length_cons, List.length_nil, List.replicate, List.getElem?_cons_zero, List.getElem?_cons_succ, List.append_nil, List.nil_append, List.cons_append, List.set_cons_zero, List.set_cons_succ, Option.map_some, Option.isSome_some, Option.isSome_none, if_true, if_false, ite_true, ite_false, Bool.false_eq_true, reduceCtorEq, Nat.reduceAdd, Nat.reduceSub] <;> try dsimp only [Dx.D.fz, Dx.MV.fz])
    exact ⟨_, rfl⟩
  · have hz' := List.mem_range.mp hz
    obtain ⟨p, o, e, hp⟩ := s_purse (n := j) (spot := z) (by omega) hl (by omega)
    obtain ⟨o2, e2⟩ := s_right (n := j) (by omega) hp
    (simp -dsimp only [evB, evS, evE, evT, evL, evA, evA1, evI, evP, evC, asgG, asgL, stoD, bind_eq, it_tup, it_lst, Nat.reduceLT, sz_0, sz_1, sz_2, sz_3, sz_4, sz_5, sz_6, sz_7, sz_8, wipe_nil, wipe_cons, Nat.zero_lt_succ, Nat.not_lt_zero, decide_true, decide_false, lift_some, thenF_nx, thenF_ret, back_none', fin_ret, fin_nx, startN,
  getVar_eq, gv_own, gv_int, gv_bl, gv_str, gv_non, gv_tup, gv_lst, gv_scr, gv_ins, keptAt_eq, kp_some, mi_own, mi_bor, mi_int, mi_bl, mi_str, mi_non, mi_tup, mi_lst, mi_scr, mi_ins, mvAt_eq, mv_some, mv_own, mv_bor, mv_int, mv_bl, mv_str, mv_non, mv_tup, mv_lst, mv_scr, mv_ins,
  fz_own, fz_l, fz_i, fzI, fz_bl, fz_str, fz_non, fzT, fz_lst, fz_scr, fz_ins, fz_set, fz_ty, fz_gl, b_int, i_add, u_neg, u_inv, c_lt, c_le, c_gt, c_ge, c_eqI, c_neI, c_eqB, c_isN, c_notN, t_bl, t_int, t_non, t_tup, t_lst, x_tup, x_lst, x_scr, s_lst, s_scr,
  l_len1, l_len2, l_len3, l_int, l_abs, l_tup, l_tup2, l_list, l_list2, l_max, l_min, l_isi, nil_out, out_int, out_bl, out_tup, out_lst, out_scr, out_ins, out_non, out_bor, nO, tB, tI, back_eq, put_none,
  List.map_cons, List.map_nil, List.length_cons, List.length_nil, List.replicate, List.getElem?_cons_zero, List.getElem?_cons_succ, List.append_nil, List.nil_append, List.cons_append, List.set_cons_zero, List.set_cons_succ, Option.map_some, Option.isSome_some, Option.isSome_none, if_true, if_false, ite_true, ite_false, Bool.false_eq_true, reduceCtorEq, Nat.reduceAdd, Nat.reduceSub] <;> try dsimp only [Dx.D.fz, Dx.MV.fz])
    rw [calO_eq (bag_d (bag_d bag_nil)) e]
    (simp -dsimp only [evB, evS, evE, evT, evL, evA, evA1, evI, evP, evC, asgG, asgL, stoD, bind_eq, it_tup, it_lst, Nat.reduceLT, sz_0, sz_1, sz_2, sz_3, sz_4, sz_5, sz_6, sz_7, sz_8, wipe_nil, wipe_cons, Nat.zero_lt_succ, Nat.not_lt_zero, decide_true, decide_false, lift_some, thenF_nx, thenF_ret, back_none', fin_ret, fin_nx, startN,
  getVar_eq, gv_own, gv_int, gv_bl, gv_str, gv_non, gv_tup, gv_lst, gv_scr, gv_ins, keptAt_eq, kp_some, mi_own, mi_bor, mi_int, mi_bl, mi_str, mi_non, mi_tup, mi_lst, mi_scr, mi_ins, mvAt_eq, mv_some, mv_own, mv_bor, mv_int, mv_bl, mv_str, mv_non, mv_tup, mv_lst, mv_scr, mv_ins,
  fz_own, fz_l, fz_i, fzI, fz_bl, fz_str, fz_non, fzT, fz_lst, fz_scr, fz_ins, fz_set, fz_ty, fz_gl, b_int, i_add, u_neg, u_inv, c_lt, c_le, c_gt, c_ge, c_eqI, c_neI, c_eqB, c_isN, c_notN, t_bl, t_int, t_non, t_tup, t_lst, x_tup, x_lst, x_scr, s_lst, s_scr,
  l_len1, l_len2, l_len3, l_int, l_abs, l_tup, l_tup2, l_list, l_list2, l_max, l_min, l_isi, nil_out, out_int, out_bl, out_tup, out_lst, out_scr, out_ins, out_non, out_bor, nO, tB, tI, back_eq, put_none,
  List.map_cons, List.map_nil, List.length_cons, List.length_nil, List.replicate, List.getElem?_cons_zero, List.getElem?_cons_succ, List.append_nil, List.nil_append, List.cons_append, List.set_cons_zero, List.set_cons_succ, Option.map_some, Option.isSome_some, Option.isSome_none, if_true, if_false, ite_true, ite_false, Bool.false_eq_true, reduceCtorEq, Nat.reduceAdd, Nat.reduceSub, lendO] <;> try dsimp only [Dx.D.fz, Dx.MV.fz])
    rw [show Ev.run m.T j (.f "_law_right") [.bor (purse p)] = .ok (.bl true) o2 from e2]
    (simp -dsimp only [evB, evS, evE, evT, evL, evA, evA1, evI, evP, evC, asgG, asgL, stoD, bind_eq, it_tup, it_lst, Nat.reduceLT, sz_0, sz_1, sz_2, sz_3, sz_4, sz_5, sz_6, sz_7, sz_8, wipe_nil, wipe_cons, Nat.zero_lt_succ, Nat.not_lt_zero, decide_true, decide_false, lift_some, thenF_nx, thenF_ret, back_none', fin_ret, fin_nx, startN,
  getVar_eq, gv_own, gv_int, gv_bl, gv_str, gv_non, gv_tup, gv_lst, gv_scr, gv_ins, keptAt_eq, kp_some, mi_own, mi_bor, mi_int, mi_bl, mi_str, mi_non, mi_tup, mi_lst, mi_scr, mi_ins, mvAt_eq, mv_some, mv_own, mv_bor, mv_int, mv_bl, mv_str, mv_non, mv_tup, mv_lst, mv_scr, mv_ins,
  fz_own, fz_l, fz_i, fzI, fz_bl, fz_str, fz_non, fzT, fz_lst, fz_scr, fz_ins, fz_set, fz_ty, fz_gl, b_int, i_add, u_neg, u_inv, c_lt, c_le, c_gt, c_ge, c_eqI, c_neI, c_eqB, c_isN, c_notN, t_bl, t_int, t_non, t_tup, t_lst, x_tup, x_lst, x_scr, s_lst, s_scr,
  l_len1, l_len2, l_len3, l_int, l_abs, l_tup, l_tup2, l_list, l_list2, l_max, l_min, l_isi, nil_out, out_int, out_bl, out_tup, out_lst, out_scr, out_ins, out_non, out_bor, nO, tB, tI, back_eq, put_none,
  List.map_cons, List.map_nil, List.length_cons, List.length_nil, List.replicate, List.getElem?_cons_zero, List.getElem?_cons_succ, List.append_nil, List.nil_append, List.cons_append, List.set_cons_zero, List.set_cons_succ, Option.map_some, Option.isSome_some, Option.isSome_none, if_true, if_false, ite_true, ite_false, Bool.false_eq_true, reduceCtorEq, Nat.reduceAdd, Nat.reduceSub] <;> try dsimp only [Dx.D.fz, Dx.MV.fz])
end Lw

end
set_option maxRecDepth 100000
theorem PySem.Challenge.cw_hoursums_k08_whole_sums_of_many_summands_holds : PySem.Challenge.rw_hoursums_k08_whole_sums_of_many_summands.Holds :=
  Lw.holds (N := 11) (by decide) fun ns hl => Lw.s_law (Nat.le_refl _) hl

