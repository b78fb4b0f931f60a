"""Assembly lines that keep their beat in every row of models, with evidence."""
