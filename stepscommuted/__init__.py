"""Steps commuted: two, three, through rows."""
