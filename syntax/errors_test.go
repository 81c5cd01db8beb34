package syntax_test

import (
	"math/rand"
	"strings"
	"testing"

	"beck/api"
	"beck/scan"
	"beck/syntax"
	"beck/term"
)

// The tests of this file are P12.1's, of what isn't parsed, and P12.3's: of an error the tree is its zero value, and the place is told.

// refused checks that a text isn't parsed.
func refused(t *testing.T, s string, place int, code api.Errno) {
	t.Helper()
	q, at, e := syntax.Parse(s)
	if at != place || e != code || told(q) != told(syntax.Query{}) {
		t.Errorf("P12.3: Parse(%.300q): %.100s, %d, %d, want %d, %d", s, told(q), at, e, place, code)
	}
}

func exprRefused(t *testing.T, s string, place int, code api.Errno) {
	t.Helper()
	x, at, e := syntax.ParseExpr(s)
	if at != place || e != code || told(x) != told(syntax.Expr{}) {
		t.Errorf("P12.3: ParseExpr(%.300q): %.100s, %d, %d, want %d, %d", s, told(x), at, e, place, code)
	}
}

// marked is a text with a mark where its error is to be told.
type marked struct {
	s    string
	code api.Errno
}

// cut answers the text without its mark, "@@", and the place where that was.
func (m marked) cut() (string, int) {
	ahead, behind, _ := strings.Cut(m.s, "@@")
	return ahead + behind, scan.Len(ahead)
}

func TestWrongHeads(t *testing.T) {
	for _, m := range []marked{
		{"@@", api.ErrForm},
		{"  \n@@", api.ErrForm},
		{"@@register", api.ErrForm},
		{"@@REGISTE", api.ErrForm},
		{"@@REGISTERS", api.ErrForm},
		{"@@REGISTER1", api.ErrForm},
		{"@@REGISTER_", api.ErrForm},
		{"@@REGISTERRSTREAM <u:o>", api.ErrForm},
		{"REGISTER@@é", api.ErrForm},
		{"REGISTER@@", api.ErrForm},
		{"REGISTER @@", api.ErrForm},
		{"REGISTER @@STREAM <u:o>", api.ErrForm},
		{"REGISTER @@RSTREAMS <u:o>", api.ErrForm},
		{"REGISTER @@Rstream <u:o>", api.ErrForm},
		{"REGISTER RSTREAM @@u:o", api.ErrForm},
		{"REGISTER RSTREAM @@_:o AS", api.ErrForm},
		{"REGISTER RSTREAM @@\"o\" AS", api.ErrForm},
		{"REGISTER RSTREAM @@?o AS", api.ErrForm},
		{"REGISTER RSTREAM @@<> AS", api.ErrTerm},
		{"REGISTER RSTREAM @@<o> AS", api.ErrTerm},
		{"REGISTER RSTREAM @@<u: o> AS", api.ErrTerm},
		{"REGISTER RSTREAM <u:o@@", api.ErrForm},
		{"REGISTER RSTREAM <u:o@@\n> AS", api.ErrForm},
		{"REGISTER RSTREAM <u:\\u00@@g1> AS", api.ErrForm},
		{"REGISTER RSTREAM <u:o> @@SELECT ?x", api.ErrForm},
		{"REGISTER RSTREAM <u:o> @@ASSELECT ?x", api.ErrForm},
		{"REGISTER RSTREAM <u:o> AS @@?x", api.ErrForm},
		{"REGISTER RSTREAM <u:o> AS SELECT @@WHERE {}", api.ErrForm},
		{"REGISTER RSTREAM <u:o> AS SELECT @@DISTINCT1 ?x WHERE {}", api.ErrForm},
		{"REGISTER RSTREAM <u:o> AS SELECT DISTINCT @@DISTINCT ?x WHERE {}", api.ErrForm},
		{"REGISTER RSTREAM <u:o> AS SELECT DISTINCT @@WHERE {}", api.ErrForm},
		{"REGISTER RSTREAM <u:o> AS SELECT @@x WHERE {}", api.ErrForm},
		{"REGISTER RSTREAM <u:o> AS SELECT @@* WHERE {}", api.ErrForm},
		{"REGISTER RSTREAM <u:o> AS SELECT ?@@ WHERE {}", api.ErrForm},
		{"REGISTER RSTREAM <u:o> AS SELECT ?@@1 WHERE {}", api.ErrForm},
		{"REGISTER RSTREAM <u:o> AS SELECT ?@@_ WHERE {}", api.ErrForm},
		{"REGISTER RSTREAM <u:o> AS SELECT ?@@é WHERE {}", api.ErrForm},
		{"REGISTER RSTREAM <u:o> AS SELECT ?x@@é WHERE {}", api.ErrForm},
		{"REGISTER RSTREAM <u:o> AS SELECT ?x@@-y WHERE {}", api.ErrForm},
		{"REGISTER RSTREAM <u:o> AS SELECT ?xWHERE @@{}", api.ErrForm},
		{"REGISTER RSTREAM <u:o> AS SELECT ?x@@, ?y WHERE {}", api.ErrForm},
		{"REGISTER RSTREAM <u:o> AS SELECT (@@?x) WHERE {}", api.ErrForm},
		{"REGISTER RSTREAM <u:o> AS SELECT (@@AVG(?x) AS ?y) WHERE {}", api.ErrForm},
		{"REGISTER RSTREAM <u:o> AS SELECT (@@COUNTS(?x) AS ?y) WHERE {}", api.ErrForm},
		{"REGISTER RSTREAM <u:o> AS SELECT (COUNT @@?x AS ?y) WHERE {}", api.ErrForm},
		{"REGISTER RSTREAM <u:o> AS SELECT (COUNT(@@) AS ?y) WHERE {}", api.ErrForm},
		{"REGISTER RSTREAM <u:o> AS SELECT (COUNT(@@1) AS ?y) WHERE {}", api.ErrForm},
		{"REGISTER RSTREAM <u:o> AS SELECT (COUNT(?x @@?y) AS ?y) WHERE {}", api.ErrForm},
		{"REGISTER RSTREAM <u:o> AS SELECT (COUNT(*)@@) WHERE {}", api.ErrForm},
		{"REGISTER RSTREAM <u:o> AS SELECT (COUNT(*) @@ASX ?y) WHERE {}", api.ErrForm},
		{"REGISTER RSTREAM <u:o> AS SELECT (COUNT(*) AS @@y) WHERE {}", api.ErrForm},
		{"REGISTER RSTREAM <u:o> AS SELECT (COUNT(*) AS ?y @@WHERE {}", api.ErrForm},
		{"REGISTER RSTREAM <u:o> AS SELECT ?x @@DISTINCT WHERE {}", api.ErrForm},
		{head + "@@", api.ErrForm},
		{head + "@@?x <u:p> ?y .", api.ErrForm},
		{head + "{} @@{}", api.ErrForm},
		{head + "{} @@?x", api.ErrForm},
		{head + "{} @@WHERE {}", api.ErrForm},
		{head + "{} GROUP @@", api.ErrForm},
		{head + "{} GROUP @@?x", api.ErrForm},
		{head + "{} @@GROUPBY ?x", api.ErrForm},
		{head + "{} GROUP BY @@", api.ErrForm},
		{head + "{} GROUP BY @@x", api.ErrForm},
		{head + "{} GROUP BY ?x@@, ?y", api.ErrForm},
		{head + "{} GROUP BY ?x @@GROUP BY ?x", api.ErrForm},
		{head + "{} GROUP BY ?@@", api.ErrForm},
		{head + "{} @@\x00", api.ErrForm},
		{head + "{} @@# a remark", api.ErrForm},
	} {
		s, place := m.cut()
		refused(t, s, place, m.code)
	}
}

func TestWrongSources(t *testing.T) {
	const from = "REGISTER RSTREAM <u:o> AS SELECT ?x FROM "
	const window = from + "WINDOW <u:w> ON <u:s> "
	for _, m := range []marked{
		{from + "@@<u:w> ON <u:s> [RANGE 1 STEP 1] WHERE {}", api.ErrForm},
		{from + "WINDOW @@ON <u:s> [RANGE 1 STEP 1] WHERE {}", api.ErrForm},
		{from + "WINDOW @@_:w ON <u:s> [RANGE 1 STEP 1] WHERE {}", api.ErrForm},
		{from + "WINDOW @@<w> ON <u:s> [RANGE 1 STEP 1] WHERE {}", api.ErrTerm},
		{from + "WINDOW <u:w> @@[RANGE 1 STEP 1] WHERE {}", api.ErrForm},
		{from + "WINDOW <u:w> ON @@[RANGE 1 STEP 1] WHERE {}", api.ErrForm},
		{from + "WINDOW <u:w> ON @@<s> [RANGE 1 STEP 1] WHERE {}", api.ErrTerm},
		{window + "@@WHERE {}", api.ErrForm},
		{window + "[@@STEP 1 RANGE 1] WHERE {}", api.ErrForm},
		{window + "[@@RANGE1 STEP 1] WHERE {}", api.ErrForm},
		{window + "[RANGE @@-1 STEP 1] WHERE {}", api.ErrForm},
		{window + "[RANGE @@+1 STEP 1] WHERE {}", api.ErrForm},
		{window + "[RANGE @@?x STEP 1] WHERE {}", api.ErrForm},
		{window + "[RANGE 1@@] WHERE {}", api.ErrForm},
		{window + "[RANGE 1 STEP @@-1] WHERE {}", api.ErrForm},
		{window + "[RANGE 1 STEP @@] WHERE {}", api.ErrForm},
		{window + "[RANGE 1@@.5 STEP 1] WHERE {}", api.ErrForm},
		{window + "[RANGE 1@@_0 STEP 1] WHERE {}", api.ErrForm},
		{window + "[RANGE 0@@x1 STEP 1] WHERE {}", api.ErrForm},
		{window + "[RANGE @@9223372036854775808 STEP 1] WHERE {}", api.ErrOver},
		{window + "[RANGE 1 STEP @@99999999999999999999999999] WHERE {}", api.ErrOver},
		{window + "[RANGE 1 STEP 1 BEGIN @@9223372036854775808] WHERE {}", api.ErrOver},
		{window + "[RANGE 1 STEP 1 BEGIN @@-9223372036854775809] WHERE {}", api.ErrOver},
		{window + "[RANGE 1 STEP 1 BEGIN @@] WHERE {}", api.ErrForm},
		{window + "[RANGE 1 STEP 1 BEGIN -@@] WHERE {}", api.ErrForm},
		{window + "[RANGE 1 STEP 1 BEGIN -@@ 1] WHERE {}", api.ErrForm},
		{window + "[RANGE 1 STEP 1 BEGIN -@@-1] WHERE {}", api.ErrForm},
		{window + "[RANGE 1 STEP 1 BEGIN @@+1] WHERE {}", api.ErrForm},
		{window + "[RANGE 1 STEP 1 @@BEGIN1] WHERE {}", api.ErrForm},
		{window + "[RANGE 1 STEP 1 BEGIN 1 @@BEGIN 1] WHERE {}", api.ErrForm},
		{window + "[RANGE 1 STEP 1 @@WHERE {}", api.ErrForm},
		{window + "[RANGE 1 STEP 1] @@CLOSE WHERE {}", api.ErrForm},
		{window + "[RANGE 1 STEP 1] @@NONEMPTYX WHERE {}", api.ErrForm},
		{window + "[RANGE 1 STEP 1] NONEMPTY @@CHANGE WHERE {}", api.ErrForm},
		{window + "[RANGE 1 STEP 1] @@?y WHERE {}", api.ErrForm},
		{window + "[RANGE 1 STEP 1] FROM @@WHERE {}", api.ErrForm},
		{window + "[RANGE 1 STEP 1] @@{}", api.ErrForm},
	} {
		s, place := m.cut()
		refused(t, s, place, m.code)
	}
}

func TestWrongItems(t *testing.T) {
	for _, m := range []marked{
		{"{@@", api.ErrForm},
		{"{ @@", api.ErrForm},
		{"{ @@. }", api.ErrForm},
		{"{ ?x @@}", api.ErrForm},
		{"{ ?x @@. }", api.ErrForm},
		{"{ ?x <u:p> @@. }", api.ErrForm},
		{"{ ?x <u:p> ?y @@}", api.ErrForm},
		{"{ ?x <u:p> ?y @@; }", api.ErrForm},
		{"{ ?x <u:p> ?y @@?z . }", api.ErrForm},
		{"{ ?x <u:p> ?y . @@. }", api.ErrForm},
		{"{ ?x @@1 ?y . }", api.ErrForm},
		{"{ ?x @@\"p\" ?y . }", api.ErrForm},
		{"{ ?x @@_:p ?y . }", api.ErrForm},
		{"{ ?x @@a ?y . }", api.ErrForm},
		{"{ ?x ?p@@* ?y . }", api.ErrForm},
		{"{ ?x ?p@@/<u:p> ?y . }", api.ErrForm},
		{"{ ?x <u:p>/@@?p ?y . }", api.ErrForm},
		{"{ ?x (@@?p) ?y . }", api.ErrForm},
		{"{ ?x <u:p>*@@* ?y . }", api.ErrForm},
		{"{ ?x <u:p>+@@~ ?y . }", api.ErrForm},
		{"{ ?x @@*<u:p> ?y . }", api.ErrForm},
		{"{ ?x ^@@^<u:p> ?y . }", api.ErrForm},
		{"{ ?x ^@@(<u:p>) ?y . }", api.ErrForm},
		{"{ ?x ^@@?p ?y . }", api.ErrForm},
		{"{ ?x ^@@<p> ?y . }", api.ErrTerm},
		{"{ ?x (@@) ?y . }", api.ErrForm},
		{"{ ?x (<u:p> @@?y . }", api.ErrForm},
		{"{ ?x (<u:p>@@<u:q>) ?y . }", api.ErrForm},
		{"{ ?x <u:p>@@) ?y . }", api.ErrForm},
		{"{ ?x <u:p>|@@|<u:q> ?y . }", api.ErrForm},
		{"{ ?x <u:p>/ @@?y . }", api.ErrForm},
		{"{ ?x <u:p>@@!<u:q> ?y . }", api.ErrForm},
		{"{ ?x <u:p>?@@/<u:q> ?y . }", api.ErrForm}, // a var begins there
		{"{ @@-1 <u:p> ?y . }", api.ErrForm},
		{"{ ?x <u:p> @@-1 . }", api.ErrForm},
		{"{ ?x <u:p> +@@+1 . }", api.ErrForm}, // the first one is the path's
		{"{ ?x <u:p> 1@@a . }", api.ErrForm},
		{"{ ?x <u:p> 1.5 @@. }", api.ErrForm}, // 5 is the next one's subject
		{"{ ?x <u:p> @@9223372036854775808 . }", api.ErrOver},
		{"{ @@9223372036854775808 <u:p> ?y . }", api.ErrOver},
		{"{ ?x <u:p> @@00009223372036854775808 . }", api.ErrOver},
		{"{ ?x <u:p> @@TRUE . }", api.ErrForm},
		{"{ @@TRUE <u:p> ?y . }", api.ErrForm},
		{"{ ?x <u:p> \"a@@", api.ErrForm},
		{"{ ?x <u:p> \"a@@\n\" . }", api.ErrForm},
		{"{ ?x <u:p> \"a\\@@x\" . }", api.ErrForm},
		{"{ ?x <u:p> \"a\\uD80@@0\" . }", api.ErrForm},
		{"{ ?x <u:p> @@\"a\"@ . }", api.ErrTerm},
		{"{ ?x <u:p> @@\"a\"@en- . }", api.ErrTerm},
		{"{ ?x <u:p> @@\"a\"@123456789 . }", api.ErrTerm},
		{"{ ?x <u:p> @@\"a\"^^<t> . }", api.ErrTerm},
		{"{ ?x <u:p> @@\"a\"^^<" + term.XLang + "> . }", api.ErrTerm},
		{"{ ?x <u:p> \"a\"^^@@ <u:t> . }", api.ErrForm},
		{"{ ?x <u:p> \"a\"@@^<u:t> . }", api.ErrForm},
		{"{ ?x <u:p> @@_: . }", api.ErrTerm},
		{"{ ?x <u:p> @@_:_a . }", api.ErrTerm},
		{"{ ?x <u:p> _@@a . }", api.ErrForm},
		{"{ ?x <u:p> _@@ :a . }", api.ErrForm},
		{"{ ?x <u:p> <u:a@@", api.ErrForm},
		{"{ @@filter(?x) }", api.ErrForm},
		{"{ @@FILTERS(?x) }", api.ErrForm},
		{"{ FILTER @@?x }", api.ErrForm},
		{"{ FILTER(@@) }", api.ErrForm},
		{"{ FILTER(?x @@}", api.ErrForm},
		{"{ FILTER(?x)@@) }", api.ErrForm},
		{"{ FILTER(?x) @@AS }", api.ErrForm},
		{"{ FILTER(?x @@AS ?y) }", api.ErrForm},
		{"{ BIND(?x@@) }", api.ErrForm},
		{"{ BIND(@@AS ?y) }", api.ErrForm},
		{"{ BIND(?x AS @@y) }", api.ErrForm},
		{"{ BIND(?x AS @@1) }", api.ErrForm},
		{"{ BIND(?x @@ASy ?y) }", api.ErrForm},
		{"{ BIND(?xAS @@?y) }", api.ErrForm},
		{"{ BIND(?x AS ?y @@}", api.ErrForm},
		{"{ BIND @@?x AS ?y }", api.ErrForm},
		{"{ OPTIONAL @@?x <u:p> ?y . }", api.ErrForm},
		{"{ @@OPTIONALX {} }", api.ErrForm},
		{"{ OPTIONAL {} @@UNION {} }", api.ErrForm},
		{"{ @@UNION {} }", api.ErrForm},
		{"{ {} UNION @@}", api.ErrForm},
		{"{ {} UNION @@OPTIONAL {} }", api.ErrForm},
		{"{ {} @@UNIONS {} }", api.ErrForm},
		{"{ {} UNION {} @@. }", api.ErrForm},
		{"{ WINDOW @@{} }", api.ErrForm},
		{"{ WINDOW @@?w {} }", api.ErrForm},
		{"{ WINDOW @@<w> {} }", api.ErrTerm},
		{"{ WINDOW <u:w> @@?x }", api.ErrForm},
		{"{ WINDOW <u:w> {} @@UNION {} }", api.ErrForm},
		{"{ @@SELECT }", api.ErrForm},
		{"{ {@@", api.ErrForm},
		{"{ { }@@", api.ErrForm},
	} {
		s, place := m.cut()
		refused(t, head+s, len(head)+place, m.code)
	}
}

func TestWrongExpressions(t *testing.T) {
	for _, m := range []marked{
		{"@@", api.ErrForm},
		{"  @@", api.ErrForm},
		{"@@)", api.ErrForm},
		{"(@@)", api.ErrForm},
		{"(?x@@", api.ErrForm},
		{"?x@@)", api.ErrForm},
		{"?x @@?y", api.ErrForm},
		{"?x @@1", api.ErrForm},
		{"?x @@\"a\"", api.ErrForm},
		{"?x @@TRUE", api.ErrForm},
		{"?x @@!?y", api.ErrForm},
		{"?x @@! =?y", api.ErrForm},
		{"?x @@|?y", api.ErrForm},
		{"?x @@| |?y", api.ErrForm},
		{"?x @@&?y", api.ErrForm},
		{"?x ||@@|?y", api.ErrForm},
		{"?x &&@@&?y", api.ErrForm},
		{"?x || @@", api.ErrForm},
		{"?x && @@)", api.ErrForm},
		{"?x =@@=?y", api.ErrForm},
		{"?x <@@>?y", api.ErrForm},
		{"?x < @@=?y", api.ErrForm},
		{"?x >@@>?y", api.ErrForm},
		{"?x <=@@=?y", api.ErrForm},
		{"?x = ?y @@= ?z", api.ErrForm},
		{"?x = ?y @@< ?z", api.ErrForm},
		{"?x < ?y @@<u:z>", api.ErrForm},
		{"?x < ?y @@>= ?z", api.ErrForm},
		{"?x = ?y + 1 @@!= ?z", api.ErrForm},
		{"?x +@@+?y", api.ErrForm},
		{"@@+?x", api.ErrForm},
		{"?x * @@*?y", api.ErrForm},
		{"?x / @@/?y", api.ErrForm},
		{"?x @@^ ?y", api.ErrForm},
		{"?x @@% ?y", api.ErrForm},
		{"!@@", api.ErrForm},
		{"!@@=?x", api.ErrForm},
		{"-@@", api.ErrForm},
		{"--@@)", api.ErrForm},
		{"!@@+?x", api.ErrForm},
		{"?@@", api.ErrForm},
		{"?@@ x", api.ErrForm},
		{"?@@1", api.ErrForm},
		{"?x@@.y", api.ErrForm},
		{"@@true", api.ErrForm},
		{"@@TRUEX", api.ErrForm},
		{"@@TRUE1", api.ErrForm},
		{"@@FALSE_", api.ErrForm},
		{"FALSE@@é", api.ErrForm},
		{"@@BOUNDS(?x)", api.ErrForm},
		{"BOUND @@?x", api.ErrForm},
		{"BOUND(@@)", api.ErrForm},
		{"BOUND(@@1)", api.ErrForm},
		{"BOUND(@@(?x))", api.ErrForm},
		{"BOUND(?x@@+1)", api.ErrForm},
		{"BOUND(?x@@", api.ErrForm},
		{"1@@x", api.ErrForm},
		{"1@@.5", api.ErrForm},
		{"1 @@2", api.ErrForm},
		{"@@9223372036854775808", api.ErrOver},
		{"-@@9223372036854775808", api.ErrOver},
		{"1 + @@9223372036854775808 + ", api.ErrOver},
		{"@@<a>", api.ErrTerm},
		{"?x < @@<a> +", api.ErrTerm},
		{"?x < <a@@", api.ErrForm},
		{"@@\"a\"^^<b>", api.ErrTerm},
		{"\"a@@", api.ErrForm},
		{"_@@", api.ErrForm},
		{"@@_:", api.ErrTerm},
		{"?x @@AS ?y", api.ErrForm},
		{"@@{}", api.ErrForm},
		{"@@SELECT", api.ErrForm},
	} {
		s, place := m.cut()
		exprRefused(t, s, place, m.code)
		if !strings.HasPrefix(m.s, "?x@@)") { // there a FILTER ends
			refused(t, head+"{FILTER("+s, len(head)+8+place, m.code)
		}
	}
}

func TestTooLong(t *testing.T) {
	good := head + "{}"
	for _, s := range []string{
		good + strings.Repeat(" ", api.MaxQuery+1-len(good)),
		strings.Repeat(" ", api.MaxQuery+1),
		strings.Repeat("\xff", api.MaxQuery+1),
		strings.Repeat("é", api.MaxQuery/2) + "a", // of bytes, not of signs
	} {
		refused(t, s, 0, api.ErrMany)
		exprRefused(t, s, 0, api.ErrMany)
	}
	exprRefused(t, "?x"+strings.Repeat(" ", api.MaxQuery-1), 0, api.ErrMany)
	refused(t, strings.Repeat("é", api.MaxQuery/2), 0, api.ErrForm)
}

// TestNoTexts: bytes that are no sign's are told ahead of whatever else can't be.
func TestNoTexts(t *testing.T) {
	for _, s := range []string{"@@\xff", "a@@\xff", "é?@@\xc3", head + "{}@@\xed\xa0\x80", head + "{ <é> <a> @@\xff", "?x@@\x80", "\ufffd@@\xfe"} {
		s, place := marked{s, 0}.cut()
		refused(t, s, place, api.ErrForm)
		exprRefused(t, s, place, api.ErrForm)
	}
}

// TestPlacesAreSigns: not bytes.
func TestPlacesAreSigns(t *testing.T) {
	for _, m := range []marked{
		{"{ ?x <u:é> \"😀\" @@}", api.ErrForm},
		{"{ <u:€€€> <u:p> @@<é> . }", api.ErrTerm},
		{"{ FILTER(\"éé\" = @@99999999999999999999) }", api.ErrOver},
		{"{ FILTER(\"éé\") FILTER(@@" + strings.Repeat("-", 40) + "1) }", api.ErrDeep},
		{"{ FILTER(\"éé\") " + strings.Repeat("{", 39) + "@@{", api.ErrDeep},
	} {
		s, place := m.cut()
		refused(t, head+s, len(head)+place, m.code)
	}
}

func TestDepthOfGroups(t *testing.T) {
	const deep = api.MaxDeep
	for _, opens := range [][]string{{"{"}, {"OPTIONAL {"}, {"WINDOW <u:w> {"}, {"FILTER(1) {"}, {"{", "OPTIONAL{", "?x?y?z.{", "WINDOW<u:w>{"}} {
		in := func(many int) string {
			s := head + "{"
			for i := range many {
				s += opens[i%len(opens)]
			}
			return s
		}
		good, bad := in(deep-1), in(deep)
		parsed(t, good+strings.Repeat("}", deep))
		// A group isn't deeper for those that stand beside it.
		parsed(t, good+strings.Repeat("}", deep-1)+strings.TrimPrefix(good, head+"{")+strings.Repeat("}", deep))
		for _, more := range []string{"", strings.Repeat("}", deep+1), strings.Repeat("{", 5) + " <a> 99999999999999999999"} {
			refused(t, bad+more, len(bad)-1, api.ErrDeep)
		}
		refused(t, good+"@", len(good), api.ErrForm)
		refused(t, good+" {} UNION <a>", len(good)+1, api.ErrDeep)
	}
	s := head + strings.Repeat("{", deep)
	parsed(t, s[:len(s)-1]+strings.Repeat("{}UNION", 100)+"{}"+strings.Repeat("{}", 100)+strings.Repeat("}", deep-1))
	refused(t, s[:len(s)-1]+"{} UNION {} UNION { {", len(s)+19, api.ErrDeep)
}

func TestDepthOfPaths(t *testing.T) {
	const deep = api.MaxDeep
	starred := func(many int) string { return strings.Repeat("(", many) + "<u:p>" + strings.Repeat(")*", many) }
	mixed := func(many int) string {
		s := "<u:p>"
		for i := range many {
			s = []string{"(" + s + ")+", "<u:a>/(" + s + ")", "(" + s + "|^<u:b>)"}[i%3]
		}
		return s
	}
	for _, make := range []func(int) string{starred, mixed} {
		parsed(t, head+"{ ?x "+make(deep-1)+" ?y . }")
		refused(t, head+"{ ?x "+make(deep)+" ?y . }", len(head)+5, api.ErrDeep)
		refused(t, head+"{ ?x\n"+make(deep)+"@", len(head)+5, api.ErrDeep)
		refused(t, head+"{ ?x <u:a>|"+make(deep-1)+" ?y . }", len(head)+5, api.ErrDeep)
		refused(t, head+"{ ?x (("+make(deep)+")) ?y . }", len(head)+5, api.ErrDeep)
		refused(t, head+"{ ?x <u:p> ?y . ?x "+make(deep)+" ?y . ?x "+make(deep)+" <a> . }", len(head)+19, api.ErrDeep)
		refused(t, head+"{ ?x "+make(deep)+"/ ?y . }", len(head)+7+len(make(deep)), api.ErrForm)
		refused(t, head+"{ <a> "+make(deep)+" ?y . }", len(head)+2, api.ErrTerm)
	}
	parsed(t, head+"{ ?x "+strings.Repeat("<u:a>/", 300)+"<u:a>"+strings.Repeat("|<u:a>", 300)+" ?y . }")
}

func TestDepthOfExpressions(t *testing.T) {
	const deep = api.MaxDeep
	signs := func(many int) string { return strings.Repeat("!", many) + "?x" }
	chain := func(many int) string { return strings.Repeat("1+", many) + "1" }
	right := func(many int) string { return strings.Repeat("1-(", many) + "1" + strings.Repeat(")", many) }
	mixed := func(many int) string {
		s := "BOUND(?x)"
		for i := range many {
			s = []string{"!(" + s + ")", "1<(" + s + ")", "(" + s + ")||TRUE", "?x&&(" + s + ")", "(" + s + ")*1", "-(" + s + ")"}[i%6]
		}
		return s
	}
	for _, make := range []func(int) string{signs, chain, right, mixed} {
		good, bad := make(deep-1), make(deep)
		parsedExpr(t, good)
		parsed(t, head+"{ FILTER("+good+") BIND((("+good+")) AS ?y) }")
		exprRefused(t, bad, 0, api.ErrDeep)
		exprRefused(t, " \t"+bad+" ", 2, api.ErrDeep)
		exprRefused(t, "(("+bad+"))", 0, api.ErrDeep)
		exprRefused(t, "TRUE=("+good+")", 0, api.ErrDeep)
		exprRefused(t, bad+"@", 0, api.ErrDeep)
		exprRefused(t, "("+bad, len(bad)+1, api.ErrForm)
		exprRefused(t, bad+"=", len(bad)+1, api.ErrForm)
		refused(t, head+"{ FILTER( "+bad+") }", len(head)+10, api.ErrDeep)
		refused(t, head+"{ FILTER("+bad+" ?y", len(head)+9, api.ErrDeep)
		refused(t, head+"{ BIND("+bad+" AS y", len(head)+7, api.ErrDeep)
		refused(t, head+"{ FILTER(<a> = "+bad+") }", len(head)+9, api.ErrTerm)
	}
	parsedExpr(t, strings.Repeat("(", 4000)+"?x"+strings.Repeat(")", 4000))
	exprRefused(t, strings.Repeat("-", 8000)+"1", 0, api.ErrDeep)
	exprRefused(t, strings.Repeat("(", 8000), 8000, api.ErrForm)
	exprRefused(t, strings.Repeat("!", 8000), 8000, api.ErrForm)
}

// TestLongInts: an int is a literal, whose text may be only so long.
func TestLongInts(t *testing.T) {
	long := strings.Repeat("0", api.MaxText) + "1"
	refused(t, head+"{ ?x <u:p> "+long+" . }", len(head)+11, api.ErrTerm)
	exprRefused(t, "1 + "+long, 4, api.ErrTerm)
	exprRefused(t, "1 + "+strings.Repeat("9", api.MaxText+1), 4, api.ErrOver)
}

// TestPrefixes: what a query begins with isn't one, but what is to be told first is its end.
func TestPrefixes(t *testing.T) {
	const s = "REGISTER ISTREAM <u:o> AS SELECT DISTINCT ?x (COUNT(*) AS ?n) FROM WINDOW <u:w> ON <u:s> [RANGE 10 STEP 5 BEGIN -2] NONEMPTY WHERE { ?x (<u:p>/^<u:q>)*|<u:r>~ \"é\"@en . FILTER(?y>1+2*-?z&&!BOUND(?a)||TRUE) OPTIONAL { _:a ?p ?y . } { } UNION { WINDOW <u:w> { } } BIND (?y - 1 AS ?k) }"
	parsed(t, s)
	for i := range s {
		q, place, e := syntax.Parse(s[:i])
		if e == api.OK || place < 0 || place > scan.Len(s[:i]) || told(q) != told(syntax.Query{}) {
			t.Errorf("P12.3: Parse(%q): %.100s, %d, %d", s[:i], told(q), place, e)
		}
	}
}

// TestAnyBytes: whatever is handed in, each call ends, and an error has a place in the text.
func TestAnyBytes(t *testing.T) {
	random := rand.New(rand.NewSource(12))
	pieces := []string{"REGISTER ", "RSTREAM ", "<u:o>", " AS ", "SELECT ", "?x", "?", "(", ")", "COUNT", "*", "FROM WINDOW ", " ON ", "[", "RANGE 1", " STEP ", "]", " WHERE ", "{", "}", ".", "1", "-", "!", "<", ">", "=", "|", "&", "^", "/", "~", "\"", "\"a\"", "@", "\\", "_:", "a", "é", "\xff", "\n", " ", "FILTER(", "BIND(", "OPTIONAL ", " UNION ", "WINDOW ", "TRUE", "BOUND(", "GROUP BY "}
	starts := []string{"", head, head + "{", head + "{?x", head + "{FILTER(", "REGISTER RSTREAM <u:o> AS SELECT ", "REGISTER RSTREAM <u:o> AS SELECT ?x FROM WINDOW <u:w> ON <u:s>"}
	for range 50000 {
		s := starts[random.Intn(len(starts))]
		for range random.Intn(12) {
			s += pieces[random.Intn(len(pieces))]
		}
		q, place, e := syntax.Parse(s)
		if place < 0 || place > scan.Len(s) || e == api.OK && place != 0 || e != api.OK && told(q) != told(syntax.Query{}) {
			t.Fatalf("P12.3: Parse(%q): %s, %d, %d", s, told(q), place, e)
		}
		x, place, e := syntax.ParseExpr(s)
		if place < 0 || place > scan.Len(s) || e == api.OK && place != 0 || e != api.OK && told(x) != told(syntax.Expr{}) {
			t.Fatalf("P12.3: ParseExpr(%q): %s, %d, %d", s, told(x), place, e)
		}
	}
}
