package desk

import "pipewright/api"

// sheet is the text that is written.
type sheet struct {
	text  []byte
	begun bool
}

// write adds a line. What is too long stays so, whatever comes behind it: nobody
// asks for that any more.
func (s *sheet) write(line string) {
	if len(s.text) > api.MaxText {
		return
	}
	if s.begun {
		s.text = append(s.text, '\n')
	}
	s.text = append(s.text, line...)
	s.begun = true
}
